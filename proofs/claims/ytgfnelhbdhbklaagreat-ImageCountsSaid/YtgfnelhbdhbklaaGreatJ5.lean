/- Texts joined: UOS, UOT, USK, UCW, UOV. -/
import Derived.Test.YtgfnelhbdhbklaaGreatJ1
import Derived.Test.YtgfnelhbdhbklaaGreatJ3
import Derived.Test.YtgfnelhbdhbklaaGreatJ4
import Derived.Deep.MidRow
import Derived.Deep.RegionHeld3
import Derived.Deep.RegionWith
/- A program that is being turned: a copy in blocks of the call's own. -/
namespace Go.Proofs.YtgfnelhbdhbklaaGreat
open Go.RowKit
set_option linter.unusedVariables false
set_option maxRecDepth 20000
namespace Wd
theorem PrV.far {w w1 : World} {v : Value} {L : List (Int × Int)} {F : Nat → Prop} (h : PrV w v L) (c : Cg F w w1) (hF : 0 < L.length → ∀ k, v.ownBlock = some k → ¬ F k) : PrV w1 v L := by
  obtain ⟨ad, cap, rfl, h1, h2, h3⟩ := h.ex
  refine ⟨ad, cap, rfl, h1, h2, fun k x hx => ?_⟩
  obtain ⟨i1, i2, g, off, e, c0, c1⟩ := h3 k x hx
  have hg : ¬ F g := hF (by have := (List.getElem?_eq_some_iff.1 hx).1; omega) g (by rw [e]; rfl)
  exact ⟨i1, i2, g, off, e, (World.cell?_of_block (a := ⟨g, off + k * 2, none⟩) (c.block g (World.block_lt_of_cell? w _ c0) hg)).trans c0, (World.cell?_of_block (a := ⟨g, off + k * 2 + 1, none⟩) (c.block g (World.block_lt_of_cell? w _ c1) hg)).trans c1⟩
theorem ByV.far {w w1 : World} {v : Value} {L : List Int} {F : Nat → Prop} (h : ByV w v L) (c : Cg F w w1) (hF : 0 < L.length → ∀ k, v.ownBlock = some k → ¬ F k) : ByV w1 v L := by
  obtain ⟨ad, cap, rfl, h1, h2, h3⟩ := h.ex
  refine ⟨ad, cap, rfl, h1, h2, fun k x hx => ?_⟩
  obtain ⟨i1, g, off, e, c0⟩ := h3 k x hx
  have hg : ¬ F g := hF (by have := (List.getElem?_eq_some_iff.1 hx).1; omega) g (by rw [e]; rfl)
  exact ⟨i1, g, off, e, (World.cell?_of_block (a := ⟨g, off + k, none⟩) (c.block g (World.block_lt_of_cell? w _ c0) hg)).trans c0⟩
/-- rows that stay whatever changes from s on, but for I -/
def StP (s : Nat) (I : Nat → Prop) (w : World) (v : Value) (L : List (Int × Int)) : Prop := ∀ w2, Cg (fun k => s ≤ k ∧ ¬ I k) w w2 → PrV w2 v L
def StB (s : Nat) (I : Nat → Prop) (w : World) (v : Value) (L : List Int) : Prop := ∀ w2, Cg (fun k => s ≤ k ∧ ¬ I k) w w2 → ByV w2 v L
section
variable {s : Nat} {I I' : Nat → Prop} {w w1 w2 : World} {v : Value} {L : List (Int × Int)} {C : List Int} {F : Nat → Prop}
theorem StP.cg (h : StP s I w v L) (c : Cg F w w1) (hF : ∀ k, F k → s ≤ k ∧ ¬ I k) : StP s I w1 v L := fun w2 c2 => h w2 ((c.mono hF).trans c2)
theorem StB.cg (h : StB s I w v C) (c : Cg F w w1) (hF : ∀ k, F k → s ≤ k ∧ ¬ I k) : StB s I w1 v C := fun w2 c2 => h w2 ((c.mono hF).trans c2)
theorem StP.more (h : StP s I w v L) (hI : ∀ k, I k → I' k) : StP s I' w v L := fun w2 c => h w2 (c.mono (fun k hk => ⟨hk.1, fun hi => hk.2 (hI k hi)⟩))
theorem StB.more (h : StB s I w v C) (hI : ∀ k, I k → I' k) : StB s I' w v C := fun w2 c => h w2 (c.mono (fun k hk => ⟨hk.1, fun hi => hk.2 (hI k hi)⟩))
theorem StP.view (h : StP s I w v L) : PrV w v L := h w (Cg.refl _ _)
theorem StB.view (h : StB s I w v C) : ByV w v C := h w (Cg.refl _ _)
theorem below_cg {w0 : World} (b : Below w0.heap.size w0 w) (c : Cg F w w2) (hF : ∀ k, F k → w0.heap.size ≤ k) : Below w0.heap.size w0 w2 :=
  ⟨c.os.trans b.os, c.tape.trans b.tape, c.output.trans b.output, Nat.le_trans b.size c.size, fun k hk => (c.block k (Nat.lt_of_lt_of_le hk b.size) (fun hf => by have := hF k hf; omega)).trans (b.block k hk)⟩
theorem StP.old {w0 : World} (h : PrV w0 v L) (b : Below w0.heap.size w0 w) : StP w0.heap.size I w v L := fun w2 c => h.up (below_cg b c (fun k hk => hk.1))
theorem StB.old {w0 : World} (h : ByV w0 v C) (b : Below w0.heap.size w0 w) : StB w0.heap.size I w v C := fun w2 c => h.up (below_cg b c (fun k hk => hk.1))
theorem StP.new (h : PrV w v L) (hI : ∀ k, v.ownBlock = some k → I k) : StP s I w v L := fun w2 c => h.far c (fun _ k hk hF => hF.2 (hI k hk))
theorem StB.new (h : ByV w v C) (hI : ∀ k, v.ownBlock = some k → I k) : StB s I w v C := fun w2 c => h.far c (fun _ k hk hF => hF.2 (hI k hk))
end
/-- how much there is of each, and that there is of what must be -/
structure Zb (b : Nat) (U : UnitA) : Prop where
  n : U.names.length ≤ b
  c1 : 1 ≤ U.classes.length
  c : U.classes.length ≤ b
  m1 : 1 ≤ U.methods.length
  m : U.methods.length ≤ b
  o1 : 1 ≤ U.objects.length
  o : U.objects.length ≤ b
  cb : ∀ x ∈ U.classes, x.binds.length ≤ b
  mb : ∀ x ∈ U.methods, x.lits.length ≤ b ∧ x.code.length ≤ b
  ob : ∀ x ∈ U.objects, x.flds.length ≤ b
  ns : ∀ x ∈ U.names, x.size ≤ 140737488355328
  cs : ∀ x ∈ U.classes, x.nm.size ≤ 140737488355328
abbrev uz5 : Obj := .cells #[.slice none 0 0, .slice none 0 0, .slice none 0 0, .slice none 0 0, .int .i64 0] 27 (0, 0)
/-- the boxes -/
structure OB (w0 wr : World) (x0 x1 x2 x3 : Value) (main : Int) : Prop where
  c0 : wr.cell? ⟨w0.heap.size, 0, none⟩ = some x0
  c1 : wr.cell? ⟨w0.heap.size, 1, none⟩ = some x1
  c2 : wr.cell? ⟨w0.heap.size, 2, none⟩ = some x2
  c3 : wr.cell? ⟨w0.heap.size, 3, none⟩ = some x3
  c4 : wr.cell? ⟨w0.heap.size, 4, none⟩ = some (.int .i64 main)
  z : ∀ j, wr.frozen? ⟨w0.heap.size, j, none⟩ = false
  r : wr.heap[w0.heap.size + 1]? = some uz5
  bel : Below w0.heap.size w0 wr
section
variable {w0 wr w1 : World} {x0 x1 x2 x3 x : Value} {main : Int} {F : Nat → Prop}
theorem OB.sz (h : OB w0 wr x0 x1 x2 x3 main) : w0.heap.size + 2 ≤ wr.heap.size := by have := (Array.getElem?_eq_some_iff.1 h.r).1; omega
theorem OB.cg (h : OB w0 wr x0 x1 x2 x3 main) (c : Cg F wr w1) (hF : ∀ k, F k → w0.heap.size + 2 ≤ k) : OB w0 w1 x0 x1 x2 x3 main := by
  have hs := h.sz
  have hb := c.block w0.heap.size (by omega) (fun hf => by have := hF _ hf; omega)
  have hr := c.block (w0.heap.size + 1) (by omega) (fun hf => by have := hF _ hf; omega)
  exact ⟨(World.cell?_of_block (a := ⟨w0.heap.size, 0, none⟩) hb).trans h.c0, (World.cell?_of_block (a := ⟨w0.heap.size, 1, none⟩) hb).trans h.c1, (World.cell?_of_block (a := ⟨w0.heap.size, 2, none⟩) hb).trans h.c2, (World.cell?_of_block (a := ⟨w0.heap.size, 3, none⟩) hb).trans h.c3, (World.cell?_of_block (a := ⟨w0.heap.size, 4, none⟩) hb).trans h.c4, fun j => (World.frozen?_of_block (a := ⟨w0.heap.size, j, none⟩) hb).trans (h.z j), hr.trans h.r, below_cg h.bel c (fun k hk => by have := hF k hk; omega)⟩
theorem OB.up (h : OB w0 wr x0 x1 x2 x3 main) (b : Below wr.heap.size wr w1) : OB w0 w1 x0 x1 x2 x3 main := h.cg (F := fun _ => False) (Cg.below _ b) (fun _ e => e.elim)
theorem OB.oth {i j : Nat} {v : Value} (hij : i ≠ j) (h : wr.cell? ⟨w0.heap.size, j, none⟩ = some v) : (wr.setCell ⟨w0.heap.size, i, none⟩ x).cell? ⟨w0.heap.size, j, none⟩ = some v := (World.cell?_setCell_other _ _ _ _ (by intro e; injection e with _ h2; omega)).trans h
theorem OB.set0 (h : OB w0 wr x0 x1 x2 x3 main) (x : Value) : OB w0 (wr.setCell ⟨w0.heap.size, 0, none⟩ x) x x1 x2 x3 main :=
  ⟨World.cell?_setCell_same _ _ _ h.c0, OB.oth (by decide) h.c1, OB.oth (by decide) h.c2, OB.oth (by decide) h.c3, OB.oth (by decide) h.c4, fun j => (World.frozen?_setCell _ _ _ _).trans (h.z j), (Below.heap_setCell _ _ _ _ (by simp only; omega)).trans h.r, h.bel.setCell (Nat.le_refl _) _⟩
theorem OB.set1 (h : OB w0 wr x0 x1 x2 x3 main) (x : Value) : OB w0 (wr.setCell ⟨w0.heap.size, 1, none⟩ x) x0 x x2 x3 main :=
  ⟨OB.oth (by decide) h.c0, World.cell?_setCell_same _ _ _ h.c1, OB.oth (by decide) h.c2, OB.oth (by decide) h.c3, OB.oth (by decide) h.c4, fun j => (World.frozen?_setCell _ _ _ _).trans (h.z j), (Below.heap_setCell _ _ _ _ (by simp only; omega)).trans h.r, h.bel.setCell (Nat.le_refl _) _⟩
theorem OB.set2 (h : OB w0 wr x0 x1 x2 x3 main) (x : Value) : OB w0 (wr.setCell ⟨w0.heap.size, 2, none⟩ x) x0 x1 x x3 main :=
  ⟨OB.oth (by decide) h.c0, OB.oth (by decide) h.c1, World.cell?_setCell_same _ _ _ h.c2, OB.oth (by decide) h.c3, OB.oth (by decide) h.c4, fun j => (World.frozen?_setCell _ _ _ _).trans (h.z j), (Below.heap_setCell _ _ _ _ (by simp only; omega)).trans h.r, h.bel.setCell (Nat.le_refl _) _⟩
theorem OB.set3 (h : OB w0 wr x0 x1 x2 x3 main) (x : Value) : OB w0 (wr.setCell ⟨w0.heap.size, 3, none⟩ x) x0 x1 x2 x main :=
  ⟨OB.oth (by decide) h.c0, OB.oth (by decide) h.c1, OB.oth (by decide) h.c2, World.cell?_setCell_same _ _ _ h.c3, OB.oth (by decide) h.c4, fun j => (World.frozen?_setCell _ _ _ _).trans (h.z j), (Below.heap_setCell _ _ _ _ (by simp only; omega)).trans h.r, h.bel.setCell (Nat.le_refl _) _⟩
theorem OB.set4 (h : OB w0 wr x0 x1 x2 x3 main) (m : Int) : OB w0 (wr.setCell ⟨w0.heap.size, 4, none⟩ (.int .i64 m)) x0 x1 x2 x3 m :=
  ⟨OB.oth (by decide) h.c0, OB.oth (by decide) h.c1, OB.oth (by decide) h.c2, OB.oth (by decide) h.c3, World.cell?_setCell_same _ _ _ h.c4, fun j => (World.frozen?_setCell _ _ _ _).trans (h.z j), (Below.heap_setCell _ _ _ _ (by simp only; omega)).trans h.r, h.bel.setCell (Nat.le_refl _) _⟩
end
/-- .. and the rows -/
structure OU (w0 wr : World) (I : Nat → Prop) (b : Nat) (N : List ByteArray) (T : List (ClassA × Value)) (M : List (MethA × Value × Value)) (O : List (ObjA × Value)) (nv cv mv ov : Value) (main : Int) : Prop where
  bx : OB w0 wr nv cv mv ov main
  on : wr.ownsRow (w0.heap.size + 2) 9 1 nv N.length (strs N)
  oc : wr.ownsRow (w0.heap.size + 2) 60 4 cv T.length (cl4s T)
  om : wr.ownsRow (w0.heap.size + 2) 63 4 mv M.length (mt4s M)
  oo : wr.ownsRow (w0.heap.size + 2) 55 2 ov O.length (ob2s O)
  ic : ∀ x ∈ T, In64 x.1.super ∧ In64 x.1.fields ∧ x.1.binds.length ≤ b ∧ StP w0.heap.size I wr x.2 x.1.binds
  im : ∀ x ∈ M, In64 x.1.args ∧ In64 x.1.temps ∧ x.1.lits.length ≤ b ∧ x.1.code.length ≤ b ∧ StP w0.heap.size I wr x.2.1 x.1.lits ∧ StB w0.heap.size I wr x.2.2 x.1.code
  io : ∀ x ∈ O, In64 x.1.cls ∧ x.1.flds.length ≤ b ∧ StP w0.heap.size I wr x.2 x.1.flds
  ap : (∀ k, nv.ownBlock = some k → cv.ownBlock ≠ some k ∧ mv.ownBlock ≠ some k ∧ ov.ownBlock ≠ some k ∧ ¬ I k) ∧ (∀ k, cv.ownBlock = some k → mv.ownBlock ≠ some k ∧ ov.ownBlock ≠ some k ∧ ¬ I k) ∧ (∀ k, mv.ownBlock = some k → ov.ownBlock ≠ some k ∧ ¬ I k) ∧ (∀ k, ov.ownBlock = some k → ¬ I k)
  iI : ∀ k, I k → w0.heap.size + 2 ≤ k
  ct : 1 ≤ T.length ∧ 1 ≤ M.length ∧ 1 ≤ O.length
  cn : N.length ≤ b ∧ T.length ≤ b ∧ M.length ≤ b ∧ O.length ≤ b
  ns : ∀ x ∈ N, x.size ≤ 140737488355328
  cs : ∀ x ∈ T, x.1.nm.size ≤ 140737488355328
section
variable {w0 wr w1 w2 : World} {I I' : Nat → Prop} {b b' : Nat} {N : List ByteArray} {T : List (ClassA × Value)} {M : List (MethA × Value × Value)} {O : List (ObjA × Value)} {nv cv mv ov : Value} {main : Int} {F : Nat → Prop}
theorem OU.cg (h : OU w0 wr I b N T M O nv cv mv ov main) (c : Cg F wr w1) (hF : ∀ k, F k → w0.heap.size + 2 ≤ k ∧ ¬ I k ∧ nv.ownBlock ≠ some k ∧ cv.ownBlock ≠ some k ∧ mv.ownBlock ≠ some k ∧ ov.ownBlock ≠ some k) : OU w0 w1 I b N T M O nv cv mv ov main := by
  have hi : ∀ k, F k → w0.heap.size ≤ k ∧ ¬ I k := fun k hk => ⟨by have := (hF k hk).1; omega, (hF k hk).2.1⟩
  exact ⟨h.bx.cg c (fun k hk => (hF k hk).1), row_cg h.on c (fun k e hf => (hF k hf).2.2.1 e), row_cg h.oc c (fun k e hf => (hF k hf).2.2.2.1 e), row_cg h.om c (fun k e hf => (hF k hf).2.2.2.2.1 e), row_cg h.oo c (fun k e hf => (hF k hf).2.2.2.2.2 e), fun x hx => by obtain ⟨a, d, e, f⟩ := h.ic x hx; exact ⟨a, d, e, f.cg c hi⟩, fun x hx => by obtain ⟨a, d, e, f, g, k⟩ := h.im x hx; exact ⟨a, d, e, f, g.cg c hi, k.cg c hi⟩, fun x hx => by obtain ⟨a, d, e⟩ := h.io x hx; exact ⟨a, d, e.cg c hi⟩, h.ap, h.iI, h.ct, h.cn, h.ns, h.cs⟩
theorem OU.up (h : OU w0 wr I b N T M O nv cv mv ov main) (bl : Below wr.heap.size wr w1) : OU w0 w1 I b N T M O nv cv mv ov main := h.cg (F := fun _ => False) (Cg.below _ bl) (fun _ e => e.elim)
/-- more may be made, inside -/
theorem OU.more (h : OU w0 wr I b N T M O nv cv mv ov main) (hb : b ≤ b') (hI : ∀ k, I k → I' k) (hI' : ∀ k, I' k → I k ∨ wr.heap.size ≤ k) : OU w0 wr I' b' N T M O nv cv mv ov main := by
  have hs := h.bx.sz
  have lt : ∀ {v : Value} {e : TypeId} {sz n : Nat} {xs : List Value}, wr.ownsRow (w0.heap.size + 2) e sz v n xs → ∀ k, v.ownBlock = some k → ¬ I k → ¬ I' k := fun hr k hk hn hi => by
    rcases hI' k hi with h1 | h1
    · exact hn h1
    · have := (hr.lt k hk).2; omega
  obtain ⟨a1, a2, a3, a4⟩ := h.ap
  exact ⟨h.bx, h.on, h.oc, h.om, h.oo, fun x hx => by obtain ⟨a, d, e, f⟩ := h.ic x hx; exact ⟨a, d, Nat.le_trans e hb, f.more hI⟩, fun x hx => by obtain ⟨a, d, e, f, g, k⟩ := h.im x hx; exact ⟨a, d, Nat.le_trans e hb, Nat.le_trans f hb, g.more hI, k.more hI⟩, fun x hx => by obtain ⟨a, d, e⟩ := h.io x hx; exact ⟨a, Nat.le_trans d hb, e.more hI⟩,
    ⟨fun k hk => ⟨(a1 k hk).1, (a1 k hk).2.1, (a1 k hk).2.2.1, lt h.on k hk (a1 k hk).2.2.2⟩, fun k hk => ⟨(a2 k hk).1, (a2 k hk).2.1, lt h.oc k hk (a2 k hk).2.2⟩, fun k hk => ⟨(a3 k hk).1, lt h.om k hk (a3 k hk).2⟩, fun k hk => lt h.oo k hk (a4 k hk)⟩,
    fun k hk => by rcases hI' k hk with h1 | h1; exact h.iI k h1; omega, h.ct, by obtain ⟨p, q, r, t⟩ := h.cn; exact ⟨Nat.le_trans p hb, Nat.le_trans q hb, Nat.le_trans r hb, Nat.le_trans t hb⟩, h.ns, h.cs⟩
theorem OU.cls {g n cp k j : Nat} {y : ClassA × Value} {u : Value} (h : OU w0 wr I b N T M O nv (.slice (some ⟨g, 0, none⟩) n cp) mv ov main) (hn : T.length = n) (hc : cl4s (T.set k y) = (cl4s T).set (k * 4 + j) u) (hy : In64 y.1.super ∧ In64 y.1.fields ∧ y.1.binds.length ≤ b ∧ StP w0.heap.size I wr y.2 y.1.binds) (hyn : y.1.nm.size ≤ 140737488355328) : OU w0 (wr.setCell ⟨g, k * 4 + j, none⟩ u) I b N (T.set k y) M O nv (.slice (some ⟨g, 0, none⟩) n cp) mv ov main := by
  have hg := (h.oc.lt g rfl).1
  have c : Cg (fun q => q = g) wr (wr.setCell ⟨g, k * 4 + j, none⟩ u) := (Cg.refl (fun q => q = g) wr).set ⟨g, k * 4 + j, none⟩ rfl u
  obtain ⟨a1, a2, a3, a4⟩ := h.ap
  have hi : ∀ q, q = g → w0.heap.size ≤ q ∧ ¬ I q := fun q hq => ⟨by omega, by subst hq; exact (a2 q rfl).2.2⟩
  have ho := h.oc
  rw [hn] at ho
  have hst := (ho.stored (k * 4 + j) u).1
  rw [← hc] at hst
  have hl : (T.set k y).length = T.length := List.length_set
  refine ⟨h.bx.cg c (fun q hq => by omega), row_set h.on _ _ (fun e => ?_), by rw [hl, hn]; exact hst, row_set h.om _ _ (fun e => ?_), row_set h.oo _ _ (fun e => ?_), ?_, ?_, ?_, h.ap, h.iI, by rw [hl]; exact h.ct, by rw [hl]; exact h.cn, h.ns, fun x hx => (List.mem_or_eq_of_mem_set hx).elim (fun m => h.cs x m) (fun e => by rw [e]; exact hyn)⟩
  · exact (a1 g e).1 rfl
  · exact (a2 g rfl).1 e
  · exact (a2 g rfl).2.1 e
  · intro x hx
    have hx' := (List.mem_or_eq_of_mem_set hx).elim (fun m => h.ic x m) (fun e => by rw [e]; exact hy)
    obtain ⟨a, d, e, f⟩ := hx'
    exact ⟨a, d, e, f.cg c hi⟩
  · intro x hx; obtain ⟨a, d, e, f, p, q⟩ := h.im x hx; exact ⟨a, d, e, f, p.cg c hi, q.cg c hi⟩
  · intro x hx; obtain ⟨a, d, e⟩ := h.io x hx; exact ⟨a, d, e.cg c hi⟩
theorem OU.met {g n cp k j : Nat} {y : MethA × Value × Value} {u : Value} (h : OU w0 wr I b N T M O nv cv (.slice (some ⟨g, 0, none⟩) n cp) ov main) (hn : M.length = n) (hc : mt4s (M.set k y) = (mt4s M).set (k * 4 + j) u) (hy : In64 y.1.args ∧ In64 y.1.temps ∧ y.1.lits.length ≤ b ∧ y.1.code.length ≤ b ∧ StP w0.heap.size I wr y.2.1 y.1.lits ∧ StB w0.heap.size I wr y.2.2 y.1.code) : OU w0 (wr.setCell ⟨g, k * 4 + j, none⟩ u) I b N T (M.set k y) O nv cv (.slice (some ⟨g, 0, none⟩) n cp) ov main := by
  have hg := (h.om.lt g rfl).1
  have c : Cg (fun q => q = g) wr (wr.setCell ⟨g, k * 4 + j, none⟩ u) := (Cg.refl (fun q => q = g) wr).set ⟨g, k * 4 + j, none⟩ rfl u
  obtain ⟨a1, a2, a3, a4⟩ := h.ap
  have hi : ∀ q, q = g → w0.heap.size ≤ q ∧ ¬ I q := fun q hq => ⟨by omega, by subst hq; exact (a3 q rfl).2⟩
  have ho := h.om
  rw [hn] at ho
  have hst := (ho.stored (k * 4 + j) u).1
  rw [← hc] at hst
  have hl : (M.set k y).length = M.length := List.length_set
  refine ⟨h.bx.cg c (fun q hq => by omega), row_set h.on _ _ (fun e => ?_), row_set h.oc _ _ (fun e => ?_), by rw [hl, hn]; exact hst, row_set h.oo _ _ (fun e => ?_), ?_, ?_, ?_, h.ap, h.iI, by rw [hl]; exact h.ct, by rw [hl]; exact h.cn, h.ns, h.cs⟩
  · exact (a1 g e).2.1 rfl
  · exact (a2 g e).1 rfl
  · exact (a3 g rfl).1 e
  · intro x hx; obtain ⟨a, d, e, f⟩ := h.ic x hx; exact ⟨a, d, e, f.cg c hi⟩
  · intro x hx
    have hx' := (List.mem_or_eq_of_mem_set hx).elim (fun m => h.im x m) (fun e => by rw [e]; exact hy)
    obtain ⟨a, d, e, f, p, q⟩ := hx'
    exact ⟨a, d, e, f, p.cg c hi, q.cg c hi⟩
  · intro x hx; obtain ⟨a, d, e⟩ := h.io x hx; exact ⟨a, d, e.cg c hi⟩
theorem OU.obj {g n cp k j : Nat} {y : ObjA × Value} {u : Value} (h : OU w0 wr I b N T M O nv cv mv (.slice (some ⟨g, 0, none⟩) n cp) main) (hn : O.length = n) (hc : ob2s (O.set k y) = (ob2s O).set (k * 2 + j) u) (hy : In64 y.1.cls ∧ y.1.flds.length ≤ b ∧ StP w0.heap.size I wr y.2 y.1.flds) : OU w0 (wr.setCell ⟨g, k * 2 + j, none⟩ u) I b N T M (O.set k y) nv cv mv (.slice (some ⟨g, 0, none⟩) n cp) main := by
  have hg := (h.oo.lt g rfl).1
  have c : Cg (fun q => q = g) wr (wr.setCell ⟨g, k * 2 + j, none⟩ u) := (Cg.refl (fun q => q = g) wr).set ⟨g, k * 2 + j, none⟩ rfl u
  obtain ⟨a1, a2, a3, a4⟩ := h.ap
  have hi : ∀ q, q = g → w0.heap.size ≤ q ∧ ¬ I q := fun q hq => ⟨by omega, by subst hq; exact (a4 q rfl)⟩
  have ho := h.oo
  rw [hn] at ho
  have hst := (ho.stored (k * 2 + j) u).1
  rw [← hc] at hst
  have hl : (O.set k y).length = O.length := List.length_set
  refine ⟨h.bx.cg c (fun q hq => by omega), row_set h.on _ _ (fun e => ?_), row_set h.oc _ _ (fun e => ?_), row_set h.om _ _ (fun e => ?_), by rw [hl, hn]; exact hst, ?_, ?_, ?_, h.ap, h.iI, by rw [hl]; exact h.ct, by rw [hl]; exact h.cn, h.ns, h.cs⟩
  · exact (a1 g e).2.2.1 rfl
  · exact (a2 g e).2.1 rfl
  · exact (a3 g e).1 rfl
  · intro x hx; obtain ⟨a, d, e, f⟩ := h.ic x hx; exact ⟨a, d, e, f.cg c hi⟩
  · intro x hx; obtain ⟨a, d, e, f, p, q⟩ := h.im x hx; exact ⟨a, d, e, f, p.cg c hi, q.cg c hi⟩
  · intro x hx
    have hx' := (List.mem_or_eq_of_mem_set hx).elim (fun m => h.io x m) (fun e => by rw [e]; exact hy)
    obtain ⟨a, d, e⟩ := hx'
    exact ⟨a, d, e.cg c hi⟩
end
end Wd
end Go.Proofs.YtgfnelhbdhbklaaGreat

/- Turning a program: rows that grow; how it ends. -/
namespace Go.Proofs.YtgfnelhbdhbklaaGreat
open Go.RowKit
set_option linter.unusedVariables false
set_option maxRecDepth 20000
namespace Wd
theorem strs_app (A B : List ByteArray) : strs (A ++ B) = strs A ++ strs B := by simp [strs]
theorem NmV.own2 {w : World} {base : Nat} {e : TypeId} {v : Value} {T : List ByteArray} (h : w.ownsRow base e 1 v T.length (strs T)) : NmV w v T := by
  rcases h.2 with ⟨rfl, h0⟩ | ⟨g, cap, cur, rfl, h1, h2, h3, h4, _⟩
  · have : T = [] := List.length_eq_zero_iff.1 h0
    subst this
    exact ⟨none, 0, rfl, by simp, by decide, fun k x hx => by simp at hx⟩
  · refine ⟨_, cap, rfl, h3, h4, fun k x hx => ⟨g, 0, rfl, ?_⟩⟩
    have hk := (List.getElem?_eq_some_iff.1 hx).1
    rw [Nat.zero_add]
    exact (h.cellAt k (by omega)).trans (by simp [strs, hx])
theorem NmV.take {w : World} {ad : Option Addr} {n cap : Nat} {L : List ByteArray} (h : NmV w (.slice ad n cap) L) (k : Nat) (hk : k ≤ L.length) : NmV w (.slice ad k cap) (L.take k) := by
  obtain ⟨ad', cap', e, h1, h2, h3⟩ := h.ex
  cases e
  have hl : (L.take k).length = k := by rw [List.length_take]; omega
  refine ⟨ad, cap, by rw [hl], by omega, h2, fun j x hx => h3 j x ?_⟩
  rw [List.getElem?_take] at hx
  split at hx
  · exact hx
  · cases hx
theorem ob2s_up : ∀ (T : List (ObjA × Value)) (c : Nat) (x : ObjA × Value), T[c]? = some x → ∀ (a : Int) (L : List (Int × Int)) (v : Value), ob2s (T.set c (⟨a, x.1.flds⟩, x.2)) = (ob2s T).set (c * 2) (.int .i64 a) ∧ ob2s (T.set c (⟨x.1.cls, L⟩, v)) = (ob2s T).set (c * 2 + 1) v
  | [], c, x, h, _, _, _ => by simp at h
  | s :: T, 0, x, h, _, _, _ => by simp at h; subst h; simp [ob2s]
  | s :: T, c + 1, x, h, a, L, v => by
    obtain ⟨p, q⟩ := ob2s_up T c x (by simpa using h) a L v
    simp only [List.set_cons_succ, ob2s, p, q]
    refine ⟨?_, ?_⟩
    · rw [show (c + 1) * 2 = c * 2 + 2 by omega]; simp
    · rw [show (c + 1) * 2 = c * 2 + 1 + 1 by omega]; simp
/-- turned: what its box holds is a program, whatever the other box is -/
structure OUf (w0 wx : World) (b : Nat) : Prop where
  mk ::
  ex : ∃ nv cv mv ov U, OB w0 wx nv cv mv ov U.main ∧ (∀ w2, Cg (fun k => k = w0.heap.size + 1) wx w2 → UnV w2 nv cv mv ov U) ∧ Zb b U
section
variable {w0 wr w1 w2 : World} {I I' : Nat → Prop} {b b' : Nat} {N : List ByteArray} {T : List (ClassA × Value)} {M : List (MethA × Value × Value)} {O : List (ObjA × Value)} {nv cv mv ov : Value} {main : Int} {F : Nat → Prop}
theorem OU.lst (h : OU w0 wr I b N T M O nv cv mv ov main) {w2 : World} (c : Cg (fun k => k = w0.heap.size + 1) wr w2) : UnV w2 nv cv mv ov ⟨N, T.map (·.1), M.map (·.1), O.map (·.1), main⟩ := by
  have hF : ∀ {v : Value} {e : TypeId} {sz n : Nat} {xs : List Value}, wr.ownsRow (w0.heap.size + 2) e sz v n xs → ∀ k, v.ownBlock = some k → ¬ k = w0.heap.size + 1 := fun hr k hk e => by have := (hr.lt k hk).1; omega
  have hi : ∀ k, k = w0.heap.size + 1 → w0.heap.size ≤ k ∧ ¬ I k := fun k hk => ⟨by omega, fun hI => by have := h.iI k hI; omega⟩
  exact ⟨NmV.own2 (row_cg h.on c (hF h.on)), ClV.own (row_cg h.oc c (hF h.oc)) (fun x hx => by obtain ⟨a, d, _, f⟩ := h.ic x hx; exact ⟨a, d, (f.cg c hi).view⟩), MtV.own (row_cg h.om c (hF h.om)) (fun x hx => by obtain ⟨a, d, _, _, f, g⟩ := h.im x hx; exact ⟨a, d, (f.cg c hi).view, (g.cg c hi).view⟩), ObV.own (row_cg h.oo c (hF h.oo)) (fun x hx => by obtain ⟨a, _, f⟩ := h.io x hx; exact ⟨a, (f.cg c hi).view⟩)⟩
theorem OU.zb (h : OU w0 wr I b N T M O nv cv mv ov main) : Zb b ⟨N, T.map (·.1), M.map (·.1), O.map (·.1), main⟩ := by
  obtain ⟨p, q, r⟩ := h.ct
  obtain ⟨n1, n2, n3, n4⟩ := h.cn
  exact ⟨n1, by simpa using p, by simpa using n2, by simpa using q, by simpa using n3, by simpa using r, by simpa using n4, fun x hx => by obtain ⟨y, hy, rfl⟩ := List.mem_map.1 hx; exact (h.ic y hy).2.2.1, fun x hx => by obtain ⟨y, hy, rfl⟩ := List.mem_map.1 hx; exact ⟨(h.im y hy).2.2.1, (h.im y hy).2.2.2.1⟩, fun x hx => by obtain ⟨y, hy, rfl⟩ := List.mem_map.1 hx; exact (h.io y hy).2.1, h.ns, fun x hx => by obtain ⟨y, hy, rfl⟩ := List.mem_map.1 hx; exact h.cs y hy⟩
theorem Zb.le {U : UnitA} (h : Zb b U) (hb : b ≤ b') : Zb b' U := ⟨Nat.le_trans h.n hb, h.c1, Nat.le_trans h.c hb, h.m1, Nat.le_trans h.m hb, h.o1, Nat.le_trans h.o hb, fun x hx => Nat.le_trans (h.cb x hx) hb, fun x hx => ⟨Nat.le_trans (h.mb x hx).1 hb, Nat.le_trans (h.mb x hx).2 hb⟩, fun x hx => Nat.le_trans (h.ob x hx) hb, h.ns, h.cs⟩
theorem OU.fin (h : OU w0 wr I b N T M O nv cv mv ov main) (hb : b ≤ b') : OUf w0 wr b' := ⟨nv, cv, mv, ov, ⟨N, T.map (·.1), M.map (·.1), O.map (·.1), main⟩, h.bx, fun w2 c => h.lst c, h.zb.le hb⟩
theorem UnV.forms {w : World} {nv cv mv ov : Value} {U : UnitA} (h : UnV w nv cv mv ov U) : ∃ na nc ca cc ma mc oa oc, nv = .slice na U.names.length nc ∧ cv = .slice ca U.classes.length cc ∧ mv = .slice ma U.methods.length mc ∧ ov = .slice oa U.objects.length oc := by
  obtain ⟨na, nc, e1, _⟩ := h.n.ex
  obtain ⟨ca, cc, e2, _⟩ := h.c.form
  obtain ⟨ma, mc, e3, _⟩ := h.m.ex
  obtain ⟨oa, oc, e4, _⟩ := h.o.form
  exact ⟨na, nc, ca, cc, ma, mc, oa, oc, e1, e2, e3, e4⟩
theorem UnV.unk {w : World} {nv cv mv ov : Value} {U : UnitA} (h : UnV w nv cv mv ov U) : UnK w (.agg #[nv, cv, mv, ov, .int .i64 U.main]) U := by
  obtain ⟨na, nc, ca, cc, ma, mc, oa, oc, rfl, rfl, rfl, rfl⟩ := h.forms
  exact ⟨⟨na, nc, ca, cc, ma, mc, oa, oc, rfl, h⟩⟩
/-- what a box that is turned last holds -/
theorem OUf.last {w0 wx : World} {nv cv mv ov : Value} {U : UnitA} (hO : OB w0 wx nv cv mv ov U.main) (hU : ∀ w2, Cg (fun k => k = w0.heap.size + 1) wx w2 → UnV w2 nv cv mv ov U) (u0 u1 u2 u3 u4 : Value) : UnV (set5 wx (w0.heap.size + 1) u0 u1 u2 u3 u4) nv cv mv ov U ∧ Below w0.heap.size w0 (set5 wx (w0.heap.size + 1) u0 u1 u2 u3 u4) := by
  have c : Cg (fun k => k = w0.heap.size + 1) wx (set5 wx (w0.heap.size + 1) u0 u1 u2 u3 u4) := by
    unfold set5 set4
    exact (((((Cg.refl (fun k => k = w0.heap.size + 1) wx).set ⟨w0.heap.size + 1, 0, none⟩ rfl u0).set ⟨w0.heap.size + 1, 1, none⟩ rfl u1).set ⟨w0.heap.size + 1, 2, none⟩ rfl u2).set ⟨w0.heap.size + 1, 3, none⟩ rfl u3).set ⟨w0.heap.size + 1, 4, none⟩ rfl u4
  exact ⟨hU _ c, below_cg hO.bel c (fun k hk => by omega)⟩
end
end Wd
end Go.Proofs.YtgfnelhbdhbklaaGreat

/- What the laws ask of the package; its answers are the document's own. -/
namespace Go.Proofs.YtgfnelhbdhbklaaGreat
open Go.RowKit
set_option linter.unusedVariables false
set_option maxRecDepth 20000
namespace Wd
theorem range5 {w : World} {q : Nat} {a b c d e : Value} (h0 : w.cell? ⟨q, 0, none⟩ = some a) (h1 : w.cell? ⟨q, 1, none⟩ = some b) (h2 : w.cell? ⟨q, 2, none⟩ = some c) (h3 : w.cell? ⟨q, 3, none⟩ = some d) (h4 : w.cell? ⟨q, 4, none⟩ = some e) : w.rangeAt q 0 [a, b, c, d, e] := by
  intro j v hj
  match j, hj with
  | 0, hj => simp at hj; subst hj; exact h0
  | 1, hj => simp at hj; subst hj; exact h1
  | 2, hj => simp at hj; subst hj; exact h2
  | 3, hj => simp at hj; subst hj; exact h3
  | 4, hj => simp at hj; subst hj; exact h4
  | j + 5, hj => simp at hj
theorem UnB.range {w : World} {q : Nat} {u : Value} {U : UnitA} {na ka ma oa : Option Addr} {nc kc mc oc : Nat} (h : UnB w q u U na ka ma oa nc kc mc oc) : w.rangeAt q 0 [.slice na U.names.length nc, .slice ka U.classes.length kc, .slice ma U.methods.length mc, .slice oa U.objects.length oc, .int .i64 U.main] := range5 h.c0 h.c1 h.c2 h.c3 h.c4
/-- a program's box, of the call's own -/
structure SmB (w wr : World) (u : Value) (U : UnitA) (na ka ma oa : Option Addr) (nc kc mc oc : Nat) : Prop where
  b : UnB wr w.heap.size u U na ka ma oa nc kc mc oc
  bel : Below w.heap.size w wr
theorem SmB.up {w wr w2 : World} {u : Value} {U : UnitA} {na ka ma oa : Option Addr} {nc kc mc oc : Nat} (h : SmB w wr u U na ka ma oa nc kc mc oc) (b : Below wr.heap.size wr w2) : SmB w w2 u U na ka ma oa nc kc mc oc := ⟨h.b.up b, h.bel.trans (b.mono h.bel.size)⟩
end Wd
end Go.Proofs.YtgfnelhbdhbklaaGreat

/- A program after stores of values of the same kinds: some program still; new memory stays new. -/
namespace Go.Proofs.YtgfnelhbdhbklaaGreat
open Go.RowKit
set_option linter.unusedVariables false
set_option maxRecDepth 20000
namespace Wd
/-- one kind of value -/
def Alk (v v' : Value) : Prop := v' = v ∨ (∃ x y, v = .int .i64 x ∧ v' = .int .i64 y ∧ In64 y) ∨ (∃ x y, v = .int .u8 x ∧ v' = .int .u8 y ∧ 0 ≤ y ∧ y ≤ 255) ∨ ∃ s t, v = .string s ∧ v' = .string t
theorem Alk.trans {a b c : Value} (h : Alk a b) (k : Alk b c) : Alk a c := by
  rcases h with rfl | ⟨x, y, rfl, rfl, h⟩ | ⟨x, y, rfl, rfl, h⟩ | ⟨s, t, rfl, rfl⟩
  · exact k
  · rcases k with rfl | ⟨x', y', e, rfl, h'⟩ | ⟨x', y', e, rfl, h'⟩ | ⟨s, t, e, rfl⟩
    · exact Or.inr (Or.inl ⟨x, y, rfl, rfl, h⟩)
    · exact Or.inr (Or.inl ⟨x, y', rfl, rfl, h'⟩)
    · cases e
    · cases e
  · rcases k with rfl | ⟨x', y', e, rfl, h'⟩ | ⟨x', y', e, rfl, h'⟩ | ⟨s, t, e, rfl⟩
    · exact Or.inr (Or.inr (Or.inl ⟨x, y, rfl, rfl, h⟩))
    · cases e
    · exact Or.inr (Or.inr (Or.inl ⟨x, y', rfl, rfl, h'⟩))
    · cases e
  · rcases k with rfl | ⟨x', y', e, rfl, h'⟩ | ⟨x', y', e, rfl, h'⟩ | ⟨s', t', e, rfl⟩
    · exact Or.inr (Or.inr (Or.inr ⟨s, t, rfl, rfl⟩))
    · cases e
    · cases e
    · exact Or.inr (Or.inr (Or.inr ⟨s, t', rfl, rfl⟩))
/-- each cell that was there has a value of its kind -/
structure SK (w w' : World) : Prop where
  cell : ∀ b v, w.cell? b = some v → ∃ v', w'.cell? b = some v' ∧ Alk v v'
  fz : ∀ b, w'.frozen? b = w.frozen? b
section
variable {w w1 w2 : World}
theorem SK.refl (w : World) : SK w w := ⟨fun b v h => ⟨v, h, Or.inl rfl⟩, fun _ => rfl⟩
theorem SK.trans (h : SK w w1) (k : SK w1 w2) : SK w w2 :=
  ⟨fun b v hb => by
    obtain ⟨v1, c1, a1⟩ := h.cell b v hb
    obtain ⟨v2, c2, a2⟩ := k.cell b v1 c1
    exact ⟨v2, c2, a1.trans a2⟩, fun b => (k.fz b).trans (h.fz b)⟩
theorem SK.set {a : Addr} {u x : Value} (ha : w.cell? a = some u) (hx : Alk u x) : SK w (w.setCell a x) :=
  ⟨fun b v hb => by
    by_cases e : a = b
    · subst e
      rw [ha] at hb
      cases hb
      exact ⟨x, World.cell?_setCell_same _ _ _ ha, hx⟩
    · exact ⟨v, (World.cell?_setCell_other _ _ _ _ e).trans hb, Or.inl rfl⟩, fun b => World.frozen?_setCell _ _ _ _⟩
theorem SK.drew (h : SK w w1) : SK w w1.drew := ⟨h.cell, h.fz⟩
theorem SK.keep (h : SK w w1) (b : Below w1.heap.size w1 w2) (hf : ∀ p, w2.frozen? p = w1.frozen? p) : SK w w2 :=
  ⟨fun p v hp => by
    obtain ⟨v', c, a⟩ := h.cell p v hp
    exact ⟨v', cell_up b c, a⟩, fun p => (hf p).trans (h.fz p)⟩
theorem SK.int (h : SK w w1) {b : Addr} {x : Int} (hb : w.cell? b = some (.int .i64 x)) (hx : In64 x) : ∃ y, In64 y ∧ w1.cell? b = some (.int .i64 y) := by
  obtain ⟨v', c, a⟩ := h.cell _ _ hb
  rcases a with rfl | ⟨_, y, _, rfl, hy⟩ | ⟨_, _, e, _⟩ | ⟨_, _, e, _⟩
  · exact ⟨x, hx, c⟩
  · exact ⟨y, hy, c⟩
  · cases e
  · cases e
theorem SK.byte (h : SK w w1) {b : Addr} {x : Int} (hb : w.cell? b = some (.int .u8 x)) (hx : 0 ≤ x ∧ x ≤ 255) : ∃ y, (0 ≤ y ∧ y ≤ 255) ∧ w1.cell? b = some (.int .u8 y) := by
  obtain ⟨v', c, a⟩ := h.cell _ _ hb
  rcases a with rfl | ⟨_, _, e, _⟩ | ⟨_, y, _, rfl, hy⟩ | ⟨_, _, e, _⟩
  · exact ⟨x, hx, c⟩
  · cases e
  · exact ⟨y, hy, c⟩
  · cases e
theorem SK.sl (h : SK w w1) {b : Addr} {ad : Option Addr} {n c : Nat} (hb : w.cell? b = some (.slice ad n c)) : w1.cell? b = some (.slice ad n c) := by
  obtain ⟨v', c', a⟩ := h.cell _ _ hb
  rcases a with rfl | ⟨_, _, e, _⟩ | ⟨_, _, e, _⟩ | ⟨_, _, e, _⟩
  · exact c'
  · cases e
  · cases e
  · cases e
end
end Wd
end Go.Proofs.YtgfnelhbdhbklaaGreat

/- Turning a program: a row inside it that grows. -/
namespace Go.Proofs.YtgfnelhbdhbklaaGreat
open Go.RowKit
set_option linter.unusedVariables false
set_option maxRecDepth 20000
namespace Wd
section
variable {w0 W w4 : World} {b : Nat} {N : List ByteArray} {T : List (ClassA × Value)} {M : List (MethA × Value × Value)} {O : List (ObjA × Value)} {nv cv mv ov v4 : Value} {main : Int}
theorem OU.bind {g n cp k : Nat} {cx : ClassA} {bv : Value} {p : Int × Int} (h : OU w0 W (fun _ => False) b N T M O nv (.slice (some ⟨g, 0, none⟩) n cp) mv ov main) (hn : T.length = n) (hx : T[k]? = some (cx, bv)) (hb4 : (cx.binds ++ [p]).length ≤ b + 50) (B4 : Below W.heap.size W w4) (na4 : ∀ k, v4.ownBlock = some k → W.heap.size ≤ k) (hp : PrV w4 v4 (cx.binds ++ [p])) : w4.cell? ⟨g, k * 4 + 3, none⟩ = some bv ∧ w4.frozen? ⟨g, k * 4 + 3, none⟩ = false ∧ OUf w0 (w4.setCell ⟨g, k * 4 + 3, none⟩ v4) (b + 50) := by
  have hk := (List.getElem?_eq_some_iff.1 hx).1
  have h1 := (h.more (b' := b + 50) (I' := fun q => v4.ownBlock = some q) (by omega) (fun q e => e.elim) (fun q e => Or.inr (na4 q e))).up B4
  have ho := h1.oc
  rw [hn] at ho
  have hget := cl4s_get T k _ hx
  have hup := cl4s_set T k _ (cx.binds ++ [p]) v4 hx
  simp only at hget hup
  obtain ⟨s0, f0, nb, pb⟩ := h1.ic _ (List.mem_of_getElem? hx)
  simp only at s0 f0 nb pb
  refine ⟨(ho.cellAt (k * 4 + 3) (by omega)).trans hget.2.2.2, ho.frozenAt (k * 4 + 3), ?_⟩
  exact (h1.cls (k := k) (j := 3) (y := (⟨cx.nm, cx.super, cx.fields, cx.binds ++ [p]⟩, v4)) (u := v4) hn hup ⟨s0, f0, hb4, StP.new hp (fun q e => e)⟩ (h1.cs (cx, bv) (List.mem_of_getElem? hx))).fin (Nat.le_refl _)
end
end Wd
end Go.Proofs.YtgfnelhbdhbklaaGreat
