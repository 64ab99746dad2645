/- A copy of a method that may be turned. -/
import Derived.Test.YthlijmdohejheaaOApp
import Derived.Test.YthlijmdohejheaaOKnown
import Derived.Deep.CutBlock
import Derived.Deep.RegionHeldLaw
import Derived.StillTailTactics
namespace Go.Proofs.Ythlijmdohejheaa
open Go.RowKit
set_option linter.unusedVariables false
set_option maxRecDepth 20000
namespace Wd
theorem PrV.far {w w1 : World} {v : Value} {L : List (Int × Int)} {F : Nat → Prop} (h : PrV w v L) (c : Cg F w w1) (hF : ∀ k, v.ownBlock = some k → ¬ F k) : PrV w1 v L := by
  obtain ⟨ad, cap, rfl, h1, h2, h3⟩ := h.ex
  refine ⟨ad, cap, rfl, h1, h2, fun k x hx => ?_⟩
  obtain ⟨i1, i2, g, off, e, c0, c1⟩ := h3 k x hx
  have hg : ¬ F g := hF g (by rw [e]; rfl)
  exact ⟨i1, i2, g, off, e, (World.cell?_of_block (a := ⟨g, off + k * 2, none⟩) (c.block g (World.block_lt_of_cell? w _ c0) hg)).trans c0, (World.cell?_of_block (a := ⟨g, off + k * 2 + 1, none⟩) (c.block g (World.block_lt_of_cell? w _ c1) hg)).trans c1⟩
theorem ByV.far {w w1 : World} {v : Value} {L : List Int} {F : Nat → Prop} (h : ByV w v L) (c : Cg F w w1) (hF : ∀ k, v.ownBlock = some k → ¬ F k) : ByV w1 v L := by
  obtain ⟨ad, cap, rfl, h1, h2, h3⟩ := h.ex
  refine ⟨ad, cap, rfl, h1, h2, fun k x hx => ?_⟩
  obtain ⟨i1, g, off, e, c0⟩ := h3 k x hx
  have hg : ¬ F g := hF g (by rw [e]; rfl)
  exact ⟨i1, g, off, e, (World.cell?_of_block (a := ⟨g, off + k, none⟩) (c.block g (World.block_lt_of_cell? w _ c0) hg)).trans c0⟩
abbrev mz4 : Obj := .cells #[.int .i64 0, .int .i64 0, .slice none 0 0, .slice none 0 0] 37 (0, 0)
/-- the method's box, and the answer's -/
structure OdB (w0 wr : World) (a t : Int) (lv cv : Value) : Prop where
  b0 : wr.cell? ⟨w0.heap.size, 0, none⟩ = some (.int .i64 a)
  b1 : wr.cell? ⟨w0.heap.size, 1, none⟩ = some (.int .i64 t)
  b2 : wr.cell? ⟨w0.heap.size, 2, none⟩ = some lv
  b3 : wr.cell? ⟨w0.heap.size, 3, none⟩ = some cv
  z : ∀ j, wr.frozen? ⟨w0.heap.size, j, none⟩ = false
  r : wr.heap[w0.heap.size + 1]? = some mz4
  bel : Below w0.heap.size w0 wr
section
variable {w0 w1 w2 : World} {a t : Int} {lv cv : Value}
theorem OdB.sz (h : OdB w0 w1 a t lv cv) : w0.heap.size + 2 ≤ w1.heap.size := by
  have := (Array.getElem?_eq_some_iff.1 h.r).1; omega
theorem OdB.cg (h : OdB w0 w1 a t lv cv) {F : Nat → Prop} (c : Cg F w1 w2) (hF : ∀ k, F k → w0.heap.size + 2 ≤ k) : OdB w0 w2 a t lv cv := by
  have hs := h.sz
  have hb := c.block w0.heap.size (by omega) (fun e => by have := hF _ e; omega)
  have hr := c.block (w0.heap.size + 1) (by omega) (fun e => by have := hF _ e; omega)
  exact ⟨(World.cell?_of_block (a := ⟨w0.heap.size, 0, none⟩) hb).trans h.b0, (World.cell?_of_block (a := ⟨w0.heap.size, 1, none⟩) hb).trans h.b1, (World.cell?_of_block (a := ⟨w0.heap.size, 2, none⟩) hb).trans h.b2, (World.cell?_of_block (a := ⟨w0.heap.size, 3, none⟩) hb).trans h.b3, fun j => (World.frozen?_of_block (a := ⟨w0.heap.size, j, none⟩) hb).trans (h.z j), hr.trans h.r,
    ⟨c.os.trans h.bel.os, c.tape.trans h.bel.tape, c.output.trans h.bel.output, Nat.le_trans h.bel.size c.size, fun k hk => (c.block k (Nat.lt_of_lt_of_le hk h.bel.size) (fun e => by have := hF _ e; omega)).trans (h.bel.block k hk)⟩⟩
theorem OdB.up (h : OdB w0 w1 a t lv cv) (b : Below w1.heap.size w1 w2) : OdB w0 w2 a t lv cv := h.cg (F := fun _ => False) (Cg.below _ b) (fun _ e => e.elim)
theorem OdB.oth {i j : Nat} {x v : Value} (hij : i ≠ j) (h : w1.cell? ⟨w0.heap.size, j, none⟩ = some v) : (w1.setCell ⟨w0.heap.size, i, none⟩ x).cell? ⟨w0.heap.size, j, none⟩ = some v := (World.cell?_setCell_other _ _ _ _ (by intro e; injection e with _ h2; omega)).trans h
theorem OdB.rr (h : w1.heap[w0.heap.size + 1]? = some mz4) (i : Nat) (x : Value) : (w1.setCell ⟨w0.heap.size, i, none⟩ x).heap[w0.heap.size + 1]? = some mz4 := (Below.heap_setCell _ _ _ _ (by simp only; omega)).trans h
theorem OdB.set0 (h : OdB w0 w1 a t lv cv) (a' : Int) : OdB w0 (w1.setCell ⟨w0.heap.size, 0, none⟩ (.int .i64 a')) a' t lv cv :=
  ⟨World.cell?_setCell_same _ _ _ h.b0, OdB.oth (by omega) h.b1, OdB.oth (by omega) h.b2, OdB.oth (by omega) h.b3, fun j => (World.frozen?_setCell _ _ _ _).trans (h.z j), OdB.rr h.r _ _, h.bel.setCell (Nat.le_refl _) _⟩
theorem OdB.set1 (h : OdB w0 w1 a t lv cv) (t' : Int) : OdB w0 (w1.setCell ⟨w0.heap.size, 1, none⟩ (.int .i64 t')) a t' lv cv :=
  ⟨OdB.oth (by omega) h.b0, World.cell?_setCell_same _ _ _ h.b1, OdB.oth (by omega) h.b2, OdB.oth (by omega) h.b3, fun j => (World.frozen?_setCell _ _ _ _).trans (h.z j), OdB.rr h.r _ _, h.bel.setCell (Nat.le_refl _) _⟩
theorem OdB.set2 (h : OdB w0 w1 a t lv cv) (v : Value) : OdB w0 (w1.setCell ⟨w0.heap.size, 2, none⟩ v) a t v cv :=
  ⟨OdB.oth (by omega) h.b0, OdB.oth (by omega) h.b1, World.cell?_setCell_same _ _ _ h.b2, OdB.oth (by omega) h.b3, fun j => (World.frozen?_setCell _ _ _ _).trans (h.z j), OdB.rr h.r _ _, h.bel.setCell (Nat.le_refl _) _⟩
theorem OdB.set3 (h : OdB w0 w1 a t lv cv) (v : Value) : OdB w0 (w1.setCell ⟨w0.heap.size, 3, none⟩ v) a t lv v :=
  ⟨OdB.oth (by omega) h.b0, OdB.oth (by omega) h.b1, OdB.oth (by omega) h.b2, World.cell?_setCell_same _ _ _ h.b3, fun j => (World.frozen?_setCell _ _ _ _).trans (h.z j), OdB.rr h.r _ _, h.bel.setCell (Nat.le_refl _) _⟩
end
/-- both of its rows are the call's own -/
structure OdS (w0 wr : World) (a t : Int) (lv cv : Value) (L : List (Int × Int)) (C : List Int) : Prop where
  b : OdB w0 wr a t lv cv
  l : wr.ownsRow (w0.heap.size + 2) 41 2 lv L.length (pr2 L)
  c : wr.ownsRow (w0.heap.size + 2) 5 1 cv C.length (bys C)
  ap : ∀ k, lv.ownBlock = some k → cv.ownBlock ≠ some k
  l64 : ∀ x ∈ L, In64 x.1 ∧ In64 x.2
  c8 : ∀ x ∈ C, 0 ≤ x ∧ x ≤ 255
  a64 : In64 a
  t64 : In64 t
/-- what is read of it -/
structure OdV (w0 wr : World) (a t : Int) (lv cv : Value) (L : List (Int × Int)) (C : List Int) : Prop where
  b : OdB w0 wr a t lv cv
  l : PrV wr lv L
  c : ByV wr cv C
  fl : ∀ k, lv.ownBlock = some k → w0.heap.size + 2 ≤ k
  fc : ∀ k, cv.ownBlock = some k → w0.heap.size + 2 ≤ k
  a64 : In64 a
  t64 : In64 t
section
variable {w0 w1 w2 : World} {a t : Int} {lv cv : Value} {L : List (Int × Int)} {C : List Int}
theorem OdS.v (h : OdS w0 w1 a t lv cv L C) : OdV w0 w1 a t lv cv L C := ⟨h.b, PrV.own h.l h.l64, ByV.own h.c h.c8, fun k hk => (h.l.lt k hk).1, fun k hk => (h.c.lt k hk).1, h.a64, h.t64⟩
theorem OdS.up (h : OdS w0 w1 a t lv cv L C) (b : Below w1.heap.size w1 w2) : OdS w0 w2 a t lv cv L C := ⟨h.b.up b, row_bel h.l b, row_bel h.c b, h.ap, h.l64, h.c8, h.a64, h.t64⟩
theorem OdS.lr (h : OdS w0 w1 a t lv cv L C) (i : Nat) (x : Value) : (w1.setCell ⟨w0.heap.size, i, none⟩ x).ownsRow (w0.heap.size + 2) 41 2 lv L.length (pr2 L) := row_set h.l _ _ (fun e => by have := (h.l.lt _ e).1; simp only at this; omega)
theorem OdS.cr (h : OdS w0 w1 a t lv cv L C) (i : Nat) (x : Value) : (w1.setCell ⟨w0.heap.size, i, none⟩ x).ownsRow (w0.heap.size + 2) 5 1 cv C.length (bys C) := row_set h.c _ _ (fun e => by have := (h.c.lt _ e).1; simp only at this; omega)
theorem OdS.seta (h : OdS w0 w1 a t lv cv L C) (a' : Int) (ha : In64 a') : OdS w0 (w1.setCell ⟨w0.heap.size, 0, none⟩ (.int .i64 a')) a' t lv cv L C := ⟨h.b.set0 a', h.lr _ _, h.cr _ _, h.ap, h.l64, h.c8, ha, h.t64⟩
theorem OdS.sett (h : OdS w0 w1 a t lv cv L C) (t' : Int) (ht : In64 t') : OdS w0 (w1.setCell ⟨w0.heap.size, 1, none⟩ (.int .i64 t')) a t' lv cv L C := ⟨h.b.set1 t', h.lr _ _, h.cr _ _, h.ap, h.l64, h.c8, h.a64, ht⟩
theorem bys_set (C : List Int) (k : Nat) (x : Int) : bys (C.set k x) = (bys C).set k (.int .u8 x) := by simp [bys, List.map_set]
theorem OdS.byte {g n c : Nat} (h : OdS w0 w1 a t lv (.slice (some ⟨g, 0, none⟩) n c) L C) (hn : n = C.length) (k : Nat) (x : Int) (hx : 0 ≤ x ∧ x ≤ 255) : OdS w0 (w1.setCell ⟨g, k, none⟩ (.int .u8 x)) a t lv (.slice (some ⟨g, 0, none⟩) n c) L (C.set k x) := by
  have hg := (h.c.lt g rfl).1
  subst hn
  refine ⟨h.b.cg (F := fun q => q = g) ((Cg.refl (fun q => q = g) w1).set ⟨g, k, none⟩ rfl _) (fun q e => by omega), row_set h.l _ _ (fun e => h.ap g e rfl), ?_, h.ap, h.l64, fun y hy => ?_, h.a64, h.t64⟩
  · rw [bys_set, List.length_set]; exact (h.c.stored _ _).1
  · rcases List.mem_or_eq_of_mem_set hy with hy | rfl
    · exact h.c8 y hy
    · exact hx
theorem pr2_set1 : ∀ (B : List (Int × Int)) (c : Nat) (x : Int × Int), B[c]? = some x → ∀ (s : Int), pr2 (B.set c (x.1, s)) = (pr2 B).set (c * 2 + 1) (.int .i64 s)
  | [], c, x, h, _ => by simp at h
  | s :: T, 0, x, h, _ => by simp at h; subst h; simp [pr2]
  | s :: T, c + 1, x, h, s' => by
    have := pr2_set1 T c x (by simpa using h) s'
    rw [List.set_cons_succ, show (c + 1) * 2 + 1 = (c * 2 + 1) + 2 by omega]
    simp [pr2, this]
theorem OdS.lit {g n c : Nat} (h : OdS w0 w1 a t (.slice (some ⟨g, 0, none⟩) n c) cv L C) (hn : n = L.length) {k : Nat} {x : Int × Int} (hk : L[k]? = some x) (y : Int) (hy : In64 y) : OdS w0 (w1.setCell ⟨g, k * 2 + 1, none⟩ (.int .i64 y)) a t (.slice (some ⟨g, 0, none⟩) n c) cv (L.set k (x.1, y)) C := by
  have hg := (h.l.lt g rfl).1
  subst hn
  refine ⟨h.b.cg (F := fun q => q = g) ((Cg.refl (fun q => q = g) w1).set ⟨g, k * 2 + 1, none⟩ rfl _) (fun q e => by omega), ?_, row_set h.c _ _ (fun e => h.ap g rfl e), h.ap, fun z hz => ?_, h.c8, h.a64, h.t64⟩
  · rw [pr2_set1 L k x hk, List.length_set]; exact (h.l.stored _ _).1
  · rcases List.mem_or_eq_of_mem_set hz with hz | rfl
    · exact h.l64 z hz
    · exact ⟨(h.l64 x (List.mem_of_getElem? hk)).1, hy⟩
/-- an append to its literals, and the store -/
theorem OdS.addl (h : OdS w0 w1 a t lv cv L C) {wA : World} {lv' : Value} {x : Int × Int} (hx : In64 x.1 ∧ In64 x.2) (hA : Below w1.heap.size w1 wA) (ho : w2.ownsRow (w0.heap.size + 2) 41 2 lv' (L.length + 1) (pr2 L ++ pr2 [x])) (hg : wA.grownBy w2 lv.ownBlock) (hat : lv'.ownBlock = lv.ownBlock ∨ lv'.ownBlock = some wA.heap.size) :
    w2.cell? ⟨w0.heap.size, 2, none⟩ = some lv ∧ w2.frozen? ⟨w0.heap.size, 2, none⟩ = false ∧ OdS w0 (w2.setCell ⟨w0.heap.size, 2, none⟩ lv') a t lv' cv (L ++ [x]) C := by
  have hc : Cg (fun k => lv.ownBlock = some k) w1 w2 := (Cg.below _ hA).grown hg (fun k e => Or.inl e)
  have hb := h.b.cg hc (fun k e => (h.l.lt k e).1)
  have hcr : w2.ownsRow (w0.heap.size + 2) 5 1 cv C.length (bys C) := row_cg h.c hc (fun k e1 e2 => h.ap k e2 e1)
  have hs := h.b.sz
  have hsA := hA.size
  refine ⟨hb.b2, hb.z 2, ⟨hb.set2 lv', ?_, row_set hcr _ _ (fun e => by have := (hcr.lt _ e).1; simp only at this; omega), fun k e1 e2 => ?_, fun z hz => ?_, h.c8, h.a64, h.t64⟩⟩
  · have ho' : w2.ownsRow (w0.heap.size + 2) 41 2 lv' (L ++ [x]).length (pr2 (L ++ [x])) := by rw [pr2_app, List.length_append]; exact ho
    exact row_set ho' _ _ (fun e => by have := (ho'.lt _ e).1; simp only at this; omega)
  · rcases hat with e | e
    · exact h.ap k (by rw [← e]; exact e1) e2
    · rw [e] at e1
      have := (h.c.lt k e2).2
      have : wA.heap.size = k := Option.some.inj e1
      omega
  · rcases List.mem_append.1 hz with hz | hz
    · exact h.l64 z hz
    · rw [List.mem_singleton.1 hz]; exact hx
/-- other bytes, in a new block -/
theorem OdS.newc (h : OdS w0 w1 a t lv cv L C) {cv' : Value} {C' : List Int} (hB : Below w1.heap.size w1 w2) (ho : w2.ownsRow (w0.heap.size + 2) 5 1 cv' C'.length (bys C')) (hf : ∀ k, cv'.ownBlock = some k → w1.heap.size ≤ k) (h8 : ∀ x ∈ C', 0 ≤ x ∧ x ≤ 255) :
    w2.cell? ⟨w0.heap.size, 3, none⟩ = some cv ∧ w2.frozen? ⟨w0.heap.size, 3, none⟩ = false ∧ OdS w0 (w2.setCell ⟨w0.heap.size, 3, none⟩ cv') a t lv cv' L C' := by
  have h2 := h.up hB
  refine ⟨h2.b.b3, h2.b.z 3, ⟨h2.b.set3 cv', h2.lr _ _, row_set ho _ _ (fun e => by have := (ho.lt _ e).1; simp only at this; omega), fun k e1 e2 => ?_, h.l64, h8, h.a64, h.t64⟩⟩
  have := hf k e2
  have := (h.l.lt k e1).2
  omega
theorem OdS.cutl {x : Option Addr} {n c : Nat} (h : OdS w0 w1 a t (.slice x n c) cv L C) (k : Nat) (hk : k ≤ L.length) : OdV w0 (w1.setCell ⟨w0.heap.size, 2, none⟩ (.slice x k c)) a t (.slice x k c) cv (L.take k) C := by
  have hc : Cg (fun q => q = w0.heap.size) w1 (w1.setCell ⟨w0.heap.size, 2, none⟩ (.slice x k c)) := (Cg.refl (fun q => q = w0.heap.size) w1).set ⟨w0.heap.size, 2, none⟩ rfl _
  have hv := h.v
  have fl : ∀ q, (Value.slice x k c).ownBlock = some q → w0.heap.size + 2 ≤ q := fun q hq => hv.fl q (by cases x <;> exact hq)
  exact ⟨h.b.set2 _, (hv.l.take k hk).far hc (fun q e1 e2 => by have := fl q e1; omega), hv.c.far hc (fun q e1 e2 => by have := hv.fc q e1; omega), fl, hv.fc, h.a64, h.t64⟩
theorem OdS.cutc {x : Option Addr} {n c : Nat} (h : OdS w0 w1 a t lv (.slice x n c) L C) (k : Nat) (hk : k ≤ C.length) : OdV w0 (w1.setCell ⟨w0.heap.size, 3, none⟩ (.slice x k c)) a t lv (.slice x k c) L (C.take k) := by
  have hc : Cg (fun q => q = w0.heap.size) w1 (w1.setCell ⟨w0.heap.size, 3, none⟩ (.slice x k c)) := (Cg.refl (fun q => q = w0.heap.size) w1).set ⟨w0.heap.size, 3, none⟩ rfl _
  have hv := h.v
  have fc : ∀ q, (Value.slice x k c).ownBlock = some q → w0.heap.size + 2 ≤ q := fun q hq => hv.fc q (by cases x <;> exact hq)
  exact ⟨h.b.set3 _, hv.l.far hc (fun q e1 e2 => by have := hv.fl q e1; omega), (hv.c.take k hk).far hc (fun q e1 e2 => by have := fc q e1; omega), hv.fl, fc, h.a64, h.t64⟩
theorem OdV.fin (h : OdV w0 w1 a t lv cv L C) (u0 u1 u2 u3 : Value) : MeV (set4 w1 (w0.heap.size + 1) u0 u1 u2 u3) (.agg #[.int .i64 a, .int .i64 t, lv, cv]) ⟨a, t, L, C⟩ ∧ Below w0.heap.size w0 (set4 w1 (w0.heap.size + 1) u0 u1 u2 u3) := by
  have hfar := fun k (hk : k ≠ w0.heap.size + 1) => set4_far w1 (w0.heap.size + 1) k u0 u1 u2 u3 hk
  have hg : Cg (fun k => k = w0.heap.size + 1) w1 (set4 w1 (w0.heap.size + 1) u0 u1 u2 u3) := ⟨rfl, rfl, rfl, by simp [set4], fun k _ hk => hfar k hk⟩
  have hl := h.l.far hg (fun k e1 e2 => by have := h.fl k e1; omega)
  have hc := h.c.far hg (fun k e1 e2 => by have := h.fc k e1; omega)
  obtain ⟨la, lc, rfl, _⟩ := h.l.ex
  obtain ⟨ca, cc, rfl, _⟩ := h.c.ex
  have hs := h.b.sz
  exact ⟨MeV.of hl hc h.a64 h.t64, ⟨hg.os.trans h.b.bel.os, hg.tape.trans h.b.bel.tape, hg.output.trans h.b.bel.output, Nat.le_trans h.b.bel.size hg.size, fun k hk => (hfar k (by omega)).trans (h.b.bel.block k hk)⟩⟩
end
theorem mask1 (n : Int) : bits .and .i64 n 1 = n % 2 := by
  have h127 : (BitVec.ofInt 64 1).toNat = 2 ^ 1 - 1 := by decide
  have key : (BitVec.ofInt 64 n &&& BitVec.ofInt 64 1).toNat = (n % ((2 ^ 64 : Nat) : Int)).toNat % 2 ^ 1 := by
    rw [BitVec.toNat_and, BitVec.toNat_ofInt, h127, Nat.and_two_pow_sub_one_eq_mod]
  show IntKind.i64.wrap ((BitVec.ofInt 64 n &&& BitVec.ofInt 64 1).toNat : Nat) = n % 2
  rw [key, IntKind.wrap_i64]
  omega
theorem mask3 (n : Int) : bits .and .i64 n 3 = n % 4 := by
  have h127 : (BitVec.ofInt 64 3).toNat = 2 ^ 2 - 1 := by decide
  have key : (BitVec.ofInt 64 n &&& BitVec.ofInt 64 3).toNat = (n % ((2 ^ 64 : Nat) : Int)).toNat % 2 ^ 2 := by
    rw [BitVec.toNat_and, BitVec.toNat_ofInt, h127, Nat.and_two_pow_sub_one_eq_mod]
  show IntKind.i64.wrap ((BitVec.ofInt 64 n &&& BitVec.ofInt 64 3).toNat : Nat) = n % 4
  rw [key, IntKind.wrap_i64]
  omega
theorem mask31 (n : Int) : bits .and .i64 n 31 = n % 32 := by
  have h127 : (BitVec.ofInt 64 31).toNat = 2 ^ 5 - 1 := by decide
  have key : (BitVec.ofInt 64 n &&& BitVec.ofInt 64 31).toNat = (n % ((2 ^ 64 : Nat) : Int)).toNat % 2 ^ 5 := by
    rw [BitVec.toNat_and, BitVec.toNat_ofInt, h127, Nat.and_two_pow_sub_one_eq_mod]
  show IntKind.i64.wrap ((BitVec.ofInt 64 n &&& BitVec.ofInt 64 31).toNat : Nat) = n % 32
  rw [key, IntKind.wrap_i64]
  omega
theorem mask63 (n : Int) : bits .and .i64 n 63 = n % 64 := by
  have h127 : (BitVec.ofInt 64 63).toNat = 2 ^ 6 - 1 := by decide
  have key : (BitVec.ofInt 64 n &&& BitVec.ofInt 64 63).toNat = (n % ((2 ^ 64 : Nat) : Int)).toNat % 2 ^ 6 := by
    rw [BitVec.toNat_and, BitVec.toNat_ofInt, h127, Nat.and_two_pow_sub_one_eq_mod]
  show IntKind.i64.wrap ((BitVec.ofInt 64 n &&& BitVec.ofInt 64 63).toNat : Nat) = n % 64
  rw [key, IntKind.wrap_i64]
  omega
theorem mask255 (n : Int) : bits .and .i64 n 255 = n % 256 := by
  have h127 : (BitVec.ofInt 64 255).toNat = 2 ^ 8 - 1 := by decide
  have key : (BitVec.ofInt 64 n &&& BitVec.ofInt 64 255).toNat = (n % ((2 ^ 64 : Nat) : Int)).toNat % 2 ^ 8 := by
    rw [BitVec.toNat_and, BitVec.toNat_ofInt, h127, Nat.and_two_pow_sub_one_eq_mod]
  show IntKind.i64.wrap ((BitVec.ofInt 64 n &&& BitVec.ofInt 64 255).toNat : Nat) = n % 256
  rw [key, IntKind.wrap_i64]
  omega
theorem OdB.born {w : World} {m : MethA} {la ca : Option Addr} {lc cc : Nat} : OdB w ((w.alloc (.cells #[.int .i64 m.args, .int .i64 m.temps, .slice la m.lits.length lc, .slice ca m.code.length cc] 37)).alloc (.cells #[.int .i64 0, .int .i64 0, .slice none 0 0, .slice none 0 0] 37)) m.args m.temps (.slice la m.lits.length lc) (.slice ca m.code.length cc) := by
  have b1 := (Below.refl w.heap.size w).alloc (Nat.le_refl _) (.cells #[.int .i64 m.args, .int .i64 m.temps, .slice la m.lits.length lc, .slice ca m.code.length cc] 37)
  have b2 := (Below.refl _ (w.alloc (.cells #[.int .i64 m.args, .int .i64 m.temps, .slice la m.lits.length lc, .slice ca m.code.length cc] 37))).alloc (Nat.le_refl _) (.cells #[.int .i64 0, .int .i64 0, .slice none 0 0, .slice none 0 0] 37)
  have hh := alloc_at w (.cells #[.int .i64 m.args, .int .i64 m.temps, .slice la m.lits.length lc, .slice ca m.code.length cc] 37) w.heap.size rfl
  have hh2 := (b2.block w.heap.size (by simp only [World.size_alloc]; omega)).trans hh
  exact ⟨cell_in hh2 rfl, cell_in hh2 rfl, cell_in hh2 rfl, cell_in hh2 rfl, fun j => loose_in hh2, alloc_at _ _ _ (by simp only [World.size_alloc]), b1.trans (b2.mono b1.size)⟩
theorem grow_new {W w1 : World} {o : Obj} (hg : (W.alloc o).grownBy w1 (some W.heap.size)) : Below W.heap.size W w1 :=
  ((Below.refl W.heap.size W).alloc (Nat.le_refl _) o).grown hg (by simp only [World.size_alloc]; omega) (fun k e => by have : W.heap.size = k := Option.some.inj e; omega)
theorem new_at {v : Value} {W : World} {o : Obj} {x y : Nat} (hat : v.ownBlock = (Value.slice (some ⟨W.heap.size, 0, none⟩) x y).ownBlock ∨ v.ownBlock = some (W.alloc o).heap.size) : ∀ k, v.ownBlock = some k → W.heap.size ≤ k := by
  intro k hk
  rcases hat with e | e
  · rw [e] at hk
    have : W.heap.size = k := by simpa [Value.ownBlock] using hk
    omega
  · rw [e] at hk
    have : (W.alloc o).heap.size = k := Option.some.inj hk
    simp only [World.size_alloc] at this
    omega
/-- its bytes are copied -/
theorem OdB.copyc {w W0 w1 : World} {a t : Int} {lv cv cv' : Value} {C : List Int} {n : Nat} (h : OdB w W0 a t lv cv) (hB : Below W0.heap.size W0 w1) (ho : w1.ownsRow (w.heap.size + 2) 5 1 cv' n (bys C)) :
    w1.cell? ⟨w.heap.size, 3, none⟩ = some cv ∧ w1.frozen? ⟨w.heap.size, 3, none⟩ = false ∧ OdB w (w1.setCell ⟨w.heap.size, 3, none⟩ cv') a t lv cv' ∧ (w1.setCell ⟨w.heap.size, 3, none⟩ cv').ownsRow (w.heap.size + 2) 5 1 cv' n (bys C) :=
  ⟨(h.up hB).b3, (h.up hB).z 3, (h.up hB).set3 _, row_set ho _ _ (fun e => by have := (ho.lt _ e).1; simp only at this; omega)⟩
/-- its literals are copied -/
theorem OdB.copyl {w wA w1 : World} {a t : Int} {lv cv lv' : Value} {C : List Int} {L : List (Int × Int)} (h : OdB w wA a t lv cv) (hc : wA.ownsRow (w.heap.size + 2) 5 1 cv C.length (bys C)) (hB : Below wA.heap.size wA w1) (ho : w1.ownsRow (w.heap.size + 2) 41 2 lv' L.length (pr2 L)) (hf : ∀ k, lv'.ownBlock = some k → wA.heap.size ≤ k) (hl : ∀ x ∈ L, In64 x.1 ∧ In64 x.2) (h8 : ∀ x ∈ C, 0 ≤ x ∧ x ≤ 255) (ha : In64 a) (ht : In64 t) :
    w1.cell? ⟨w.heap.size, 2, none⟩ = some lv ∧ w1.frozen? ⟨w.heap.size, 2, none⟩ = false ∧ OdS w (w1.setCell ⟨w.heap.size, 2, none⟩ lv') a t lv' cv L C := by
  have h1 := h.up hB
  have hc1 := row_bel hc hB
  refine ⟨h1.b2, h1.z 2, ⟨h1.set2 _, row_set ho _ _ (fun e => by have := (ho.lt _ e).1; simp only at this; omega), row_set hc1 _ _ (fun e => by have := (hc1.lt _ e).1; simp only at this; omega), fun k e1 e2 => ?_, hl, h8, ha, ht⟩⟩
  have := hf k e1
  have := (hc.lt k e2).2
  omega
end Wd
end Go.Proofs.Ythlijmdohejheaa
