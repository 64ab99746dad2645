/- CodeTells, over what the laws ask of the package. -/
import Derived.Test.YthlijmdohejheaaOTape
import Derived.Test.YthlijmdohejheaaOSame
import Derived.Deep.RegionHeld3
import Derived.Deep.RegionWith
namespace Go.Proofs.Ythlijmdohejheaa
open Go.RowKit
set_option linter.unusedVariables false
set_option maxRecDepth 20000
namespace Wd
theorem MeB.cg {w w1 : World} {q : Nat} {v v' : Value} {m m' : MethA} {la ca : Option Addr} {lc cc : Nat} (h : MeB w q v m la ca lc cc) {F : Nat → Prop} (c : Cg F w w1) (hq : ¬ F q) (me : MeV w1 v m) : MeB w1 q v m la ca lc cc := by
  have hb := c.block q h.lt hq
  exact ⟨h.e, (World.cell?_of_block (a := ⟨q, 0, none⟩) hb).trans h.c0, (World.cell?_of_block (a := ⟨q, 1, none⟩) hb).trans h.c1, (World.cell?_of_block (a := ⟨q, 2, none⟩) hb).trans h.c2, (World.cell?_of_block (a := ⟨q, 3, none⟩) hb).trans h.c3, me⟩
/-- a program's box -/
structure UnC (w : World) (q : Nat) (U : UnitA) (na ka ma oa : Option Addr) (nc kc mc oc : Nat) : Prop where
  c0 : w.cell? ⟨q, 0, none⟩ = some (.slice na U.names.length nc)
  c1 : w.cell? ⟨q, 1, none⟩ = some (.slice ka U.classes.length kc)
  c2 : w.cell? ⟨q, 2, none⟩ = some (.slice ma U.methods.length mc)
  c3 : w.cell? ⟨q, 3, none⟩ = some (.slice oa U.objects.length oc)
  c4 : w.cell? ⟨q, 4, none⟩ = some (.int .i64 U.main)
theorem UnC.cg {w w1 : World} {q : Nat} {U : UnitA} {na ka ma oa : Option Addr} {nc kc mc oc : Nat} (h : UnC w q U na ka ma oa nc kc mc oc) {F : Nat → Prop} (c : Cg F w w1) (hq : ¬ F q) : UnC w1 q U na ka ma oa nc kc mc oc := by
  have hb := c.block q (World.block_lt_of_cell? w _ h.c0) hq
  exact ⟨(World.cell?_of_block (a := ⟨q, 0, none⟩) hb).trans h.c0, (World.cell?_of_block (a := ⟨q, 1, none⟩) hb).trans h.c1, (World.cell?_of_block (a := ⟨q, 2, none⟩) hb).trans h.c2, (World.cell?_of_block (a := ⟨q, 3, none⟩) hb).trans h.c3, (World.cell?_of_block (a := ⟨q, 4, none⟩) hb).trans h.c4⟩
theorem UnC.up {w w1 : World} {q : Nat} {U : UnitA} {na ka ma oa : Option Addr} {nc kc mc oc : Nat} (h : UnC w q U na ka ma oa nc kc mc oc) (b : Below w.heap.size w w1) : UnC w1 q U na ka ma oa nc kc mc oc := h.cg (Cg.below (fun _ => False) b) (fun e => e)
theorem UnC.range {w : World} {q : Nat} {U : UnitA} {na ka ma oa : Option Addr} {nc kc mc oc : Nat} (h : UnC w q U na ka ma oa nc kc mc oc) : w.rangeAt q 0 [.slice na U.names.length nc, .slice ka U.classes.length kc, .slice ma U.methods.length mc, .slice oa U.objects.length oc, .int .i64 U.main] := range5 h.c0 h.c1 h.c2 h.c3 h.c4
/-- raw's box, the program's, the method's -/
structure T2 (w wr : World) (vR vM : Value) (mR mM : MethA) (vU : Value) (U : UnitA) (g cap : Nat) (M : List (MethA × Value × Value)) (k q13 q14 : Nat) (na ka oa la ca ra sa : Option Addr) (nc kc oc lc cc rc sc : Nat) : Prop where
  raw : MeB wr w.heap.size vR mR ra sa rc sc
  un : UnT (w.heap.size + 1 + 1) wr vU U g cap M
  box : UnC wr q13 U na ka (some ⟨g, 0, none⟩) oa nc kc cap oc
  met : MeB wr q14 vM mM la ca lc cc
  at_ : ∃ lv cv, M[k]? = some (mM, lv, cv) ∧ vM = .agg #[.int .i64 mM.args, .int .i64 mM.temps, lv, cv]
  q3 : w.heap.size < q13
  q4 : w.heap.size < q14
  z : ∀ j, wr.frozen? ⟨w.heap.size, j, none⟩ = false
  bel : Below w.heap.size w wr
theorem T2.up {w w1 w2 : World} {vR vM : Value} {mR mM : MethA} {vU : Value} {U : UnitA} {g cap : Nat} {M : List (MethA × Value × Value)} {k q13 q14 : Nat} {na ka oa la ca ra sa : Option Addr} {nc kc oc lc cc rc sc : Nat} (h : T2 w w1 vR vM mR mM vU U g cap M k q13 q14 na ka oa la ca ra sa nc kc oc lc cc rc sc) (b : Below w1.heap.size w1 w2) : T2 w w2 vR vM mR mM vU U g cap M k q13 q14 na ka oa la ca ra sa nc kc oc lc cc rc sc :=
  ⟨h.raw.up b, h.un.up b, h.box.up b, h.met.up b, h.at_, h.q3, h.q4, fun j => (World.frozen?_of_block (a := ⟨w.heap.size, j, none⟩) (b.block _ h.raw.lt)).trans (h.z j), h.bel.trans (b.mono h.bel.size)⟩
/-- raw's bytes, literals are cut -/
theorem T2.cut {w w1 : World} {vR vM : Value} {mR mM : MethA} {vU : Value} {U : UnitA} {g cap : Nat} {M : List (MethA × Value × Value)} {k q13 q14 : Nat} {na ka oa la ca ra sa : Option Addr} {nc kc oc lc cc rc sc : Nat} (h : T2 w w1 vR vM mR mM vU U g cap M k q13 q14 na ka oa la ca ra sa nc kc oc lc cc rc sc) (hM : MeV w vR mR) :
    (∀ j, j ≤ mR.code.length → T2 w (w1.setCell ⟨w.heap.size, 3, none⟩ (.slice sa j sc)) (.agg #[.int .i64 mR.args, .int .i64 mR.temps, .slice ra mR.lits.length rc, .slice sa j sc]) vM ⟨mR.args, mR.temps, mR.lits, mR.code.take j⟩ mM vU U g cap M k q13 q14 na ka oa la ca ra sa nc kc oc lc cc rc sc ∧ MeV w (.agg #[.int .i64 mR.args, .int .i64 mR.temps, .slice ra mR.lits.length rc, .slice sa j sc]) ⟨mR.args, mR.temps, mR.lits, mR.code.take j⟩) ∧
    (∀ j, j ≤ mR.lits.length → T2 w (w1.setCell ⟨w.heap.size, 2, none⟩ (.slice ra j rc)) (.agg #[.int .i64 mR.args, .int .i64 mR.temps, .slice ra j rc, .slice sa mR.code.length sc]) vM ⟨mR.args, mR.temps, mR.lits.take j, mR.code⟩ mM vU U g cap M k q13 q14 na ka oa la ca ra sa nc kc oc lc cc rc sc ∧ MeV w (.agg #[.int .i64 mR.args, .int .i64 mR.temps, .slice ra j rc, .slice sa mR.code.length sc]) ⟨mR.args, mR.temps, mR.lits.take j, mR.code⟩) := by
  have hpy : PrV w (.slice ra mR.lits.length rc) mR.lits ∧ ByV w (.slice sa mR.code.length sc) mR.code := by
    obtain ⟨la', lc', ca', cc', e, h1, h2⟩ := hM.ex
    rw [h.raw.e] at e
    cases e
    exact ⟨h1, h2⟩
  have key : ∀ (i : Nat) (x v' : Value) (m' : MethA) (n1 n2 : Nat), MeV w v' m' → MeB (w1.setCell ⟨w.heap.size, i, none⟩ x) w.heap.size v' m' ra sa rc sc → T2 w (w1.setCell ⟨w.heap.size, i, none⟩ x) v' vM m' mM vU U g cap M k q13 q14 na ka oa la ca ra sa nc kc oc lc cc rc sc := by
    intro i x v' m' _ _ hM' hB
    have hc : Cg (fun q => q = w.heap.size) w1 (w1.setCell ⟨w.heap.size, i, none⟩ x) := (Cg.refl (fun q => q = w.heap.size) w1).set ⟨w.heap.size, i, none⟩ rfl x
    have hu := h.un.cg hc (fun q e => by omega)
    have hq3 := h.q3
    have hq4 := h.q4
    obtain ⟨lv, cv, hk, e⟩ := h.at_
    have hme := hu.me hk
    rw [← e] at hme
    exact ⟨hB, hu, h.box.cg hc (by omega), h.met.cg (v' := vM) (m' := mM) hc (by omega) hme, h.at_, h.q3, h.q4, fun j => (World.frozen?_setCell _ _ _ _).trans (h.z j), h.bel.setCell (Nat.le_refl _) _⟩
  refine ⟨fun j hj => ?_, fun j hj => ?_⟩
  · have hM' := MeV.of hpy.1 (hpy.2.take j hj) hM.a64 hM.t64
    refine ⟨key _ _ _ _ 0 0 hM' ⟨?_, OdB.oth (by omega) h.raw.c0, OdB.oth (by omega) h.raw.c1, OdB.oth (by omega) h.raw.c2, ?_, hM'.up (h.bel.setCell (Nat.le_refl _) _)⟩, hM'⟩
    · simp [hj]
    · rw [show (mR.code.take j).length = j by rw [List.length_take]; omega]; exact World.cell?_setCell_same _ _ _ h.raw.c3
  · have hM' := MeV.of (hpy.1.take j hj) hpy.2 hM.a64 hM.t64
    refine ⟨key _ _ _ _ 0 0 hM' ⟨?_, OdB.oth (by omega) h.raw.c0, OdB.oth (by omega) h.raw.c1, ?_, OdB.oth (by omega) h.raw.c3, hM'.up (h.bel.setCell (Nat.le_refl _) _)⟩, hM'⟩
    · simp [hj]
    · rw [show (mR.lits.take j).length = j by rw [List.length_take]; omega]; exact World.cell?_setCell_same _ _ _ h.raw.c2
/-- few, while it is made: its box, its bytes; all else is as it was in wt -/
structure Fw (wt wr : World) (a t : Int) (lv cv : Value) (C : List Int) : Prop where
  b0 : wr.cell? ⟨wt.heap.size, 0, none⟩ = some (.int .i64 a)
  b1 : wr.cell? ⟨wt.heap.size, 1, none⟩ = some (.int .i64 t)
  b2 : wr.cell? ⟨wt.heap.size, 2, none⟩ = some lv
  b3 : wr.cell? ⟨wt.heap.size, 3, none⟩ = some cv
  z : ∀ j, wr.frozen? ⟨wt.heap.size, j, none⟩ = false
  c : wr.ownsRow (wt.heap.size + 1) 5 1 cv C.length (bys C)
  c8 : ∀ x ∈ C, 0 ≤ x ∧ x ≤ 255
  bel : Below wt.heap.size wt wr
theorem Fw.born {wt w2 : World} {a t : Int} {lv cv cv' : Value} {C : List Int} (hB : Below (wt.alloc (.cells #[.int .i64 a, .int .i64 t, lv, cv] 37)).heap.size (wt.alloc (.cells #[.int .i64 a, .int .i64 t, lv, cv] 37)) w2) (ho : w2.ownsRow (wt.heap.size + 1) 5 1 cv' C.length (bys C)) (h8 : ∀ x ∈ C, 0 ≤ x ∧ x ≤ 255) :
    w2.cell? ⟨wt.heap.size, 3, none⟩ = some cv ∧ w2.frozen? ⟨wt.heap.size, 3, none⟩ = false ∧ Fw wt (w2.setCell ⟨wt.heap.size, 3, none⟩ cv') a t lv cv' C := by
  have hh := (hB.block wt.heap.size (by simp only [World.size_alloc]; omega)).trans (alloc_at wt (.cells #[.int .i64 a, .int .i64 t, lv, cv] 37) wt.heap.size rfl)
  have b1 := (Below.refl wt.heap.size wt).alloc (Nat.le_refl _) (.cells #[.int .i64 a, .int .i64 t, lv, cv] 37)
  have b2 := b1.trans (hB.mono b1.size)
  have oth : ∀ {j : Nat} {v : Value}, 3 ≠ j → w2.cell? ⟨wt.heap.size, j, none⟩ = some v → (w2.setCell ⟨wt.heap.size, 3, none⟩ cv').cell? ⟨wt.heap.size, j, none⟩ = some v := fun hij h => OdB.oth hij h
  exact ⟨cell_in hh rfl, loose_in hh, ⟨oth (by omega) (cell_in hh rfl), oth (by omega) (cell_in hh rfl), oth (by omega) (cell_in hh rfl), World.cell?_setCell_same _ _ _ (cell_in hh rfl), fun j => (World.frozen?_setCell _ _ _ _).trans (loose_in hh), row_set ho _ _ (fun e => by have := (ho.lt _ e).1; simp only at this; omega), h8, b2.setCell (Nat.le_refl _) _⟩⟩
theorem Fw.byte {wt w1 : World} {a t : Int} {lv : Value} {g n c : Nat} {C : List Int} (h : Fw wt w1 a t lv (.slice (some ⟨g, 0, none⟩) n c) C) (hn : n = C.length) (k : Nat) (x : Int) (hx : 0 ≤ x ∧ x ≤ 255) : Fw wt (w1.setCell ⟨g, k, none⟩ (.int .u8 x)) a t lv (.slice (some ⟨g, 0, none⟩) n c) (C.set k x) := by
  subst hn
  have hg := (h.c.lt g rfl).1
  have far : ∀ {j : Nat} {v : Value}, w1.cell? ⟨wt.heap.size, j, none⟩ = some v → (w1.setCell ⟨g, k, none⟩ (.int .u8 x)).cell? ⟨wt.heap.size, j, none⟩ = some v := fun h' => (World.cell?_setCell_far _ _ _ _ (by simp only; omega)).trans h'
  refine ⟨far h.b0, far h.b1, far h.b2, far h.b3, fun j => (World.frozen?_setCell _ _ _ _).trans (h.z j), ?_, fun y hy => ?_, h.bel.setCell (by simp only; omega) _⟩
  · rw [bys_set, List.length_set]; exact (h.c.stored _ _).1
  · rcases List.mem_or_eq_of_mem_set hy with hy | rfl
    · exact h.c8 y hy
    · exact hx
theorem Fw.drew {wt w1 : World} {a t : Int} {lv cv : Value} {C : List Int} (h : Fw wt w1 a t lv cv C) : Fw wt w1.drew a t lv cv C := ⟨h.b0, h.b1, h.b2, h.b3, h.z, row_bel h.c ((Below.refl _ _).drew), h.c8, h.bel.drew⟩
theorem Fw.set01 {wt w1 : World} {a t : Int} {lv cv : Value} {C : List Int} (h : Fw wt w1 a t lv cv C) (a' t' : Int) : Fw wt ((w1.setCell ⟨wt.heap.size, 0, none⟩ (.int .i64 a')).setCell ⟨wt.heap.size, 1, none⟩ (.int .i64 t')) a' t' lv cv C := by
  have r : ∀ {w : World} (i : Nat) (x : Value), w.ownsRow (wt.heap.size + 1) 5 1 cv C.length (bys C) → (w.setCell ⟨wt.heap.size, i, none⟩ x).ownsRow (wt.heap.size + 1) 5 1 cv C.length (bys C) := fun i x ho => row_set ho _ _ (fun e => by have := (ho.lt _ e).1; simp only at this; omega)
  exact ⟨OdB.oth (by omega) (World.cell?_setCell_same _ _ _ h.b0), World.cell?_setCell_same _ _ _ (OdB.oth (by omega) h.b1), OdB.oth (by omega) (OdB.oth (by omega) h.b2), OdB.oth (by omega) (OdB.oth (by omega) h.b3), fun j => (World.frozen?_setCell _ _ _ _).trans ((World.frozen?_setCell _ _ _ _).trans (h.z j)), r _ _ (r _ _ h.c), h.c8, (h.bel.setCell (Nat.le_refl _) _).setCell (Nat.le_refl _) _⟩
end Wd
end Go.Proofs.Ythlijmdohejheaa
