/- A tape's program: its four stretches. -/
import Derived.Test.YthlijmdohejheaaKU0
namespace Go.Proofs.Ythlijmdohejheaa
open Go.RowKit
set_option linter.unusedVariables false
set_option maxRecDepth 20000
namespace Wd
def cls0 : List (ClassA × Value) := [(⟨⟨#[66, 108, 111, 99, 107]⟩, -1, 4, []⟩, .slice none 0 0), (⟨⟨#[65, 114, 114, 97, 121]⟩, -1, 0, []⟩, .slice none 0 0)]
/-- the world at the first loop -/
abbrev wU (w : World) : World := (((w.alloc (.cells #[.slice none 0 0, .slice none 0 0, .slice none 0 0, .slice none 0 0, .int .i64 0] 27)).alloc (.cells (strs nameL).toArray 9)).alloc (.cells #[.slice (some ⟨w.heap.size + 1, 0, none⟩) 6 6, .slice (some ⟨w.heap.size + 1 + 1 + 1, 0, none⟩) 2 2, .slice none 0 0, .slice none 0 0, .int .i64 6] 27)).alloc (.cells (cl4s cls0).toArray 61)
theorem alloc_at (w : World) (o : Obj) (k : Nat) (h : k = w.heap.size) : (w.alloc o).heap[k]? = some o := by subst h; exact heap_alloc_new _ _
theorem alloc_old (w : World) (o : Obj) (k : Nat) (hk : k < w.heap.size) : (w.alloc o).heap[k]? = w.heap[k]? := Below.heap_alloc w o k hk
theorem wU_0 (w : World) : (wU w).heap[w.heap.size]? = some (.cells #[.slice none 0 0, .slice none 0 0, .slice none 0 0, .slice none 0 0, .int .i64 0] 27 (0, 0)) := by
  unfold wU
  rw [alloc_old _ _ _ (by simp only [World.size_alloc]; omega), alloc_old _ _ _ (by simp only [World.size_alloc]; omega), alloc_old _ _ _ (by simp only [World.size_alloc]; omega)]
  exact alloc_at _ _ _ rfl
theorem wU_1 (w : World) : (wU w).heap[w.heap.size + 1]? = some (.cells (strs nameL).toArray 9 (0, 0)) := by
  unfold wU
  rw [alloc_old _ _ _ (by simp only [World.size_alloc]; omega), alloc_old _ _ _ (by simp only [World.size_alloc]; omega)]
  exact alloc_at _ _ _ (by simp only [World.size_alloc])
theorem wU_2 (w : World) : (wU w).heap[w.heap.size + 1 + 1]? = some (.cells #[.slice (some ⟨w.heap.size + 1, 0, none⟩) 6 6, .slice (some ⟨w.heap.size + 1 + 1 + 1, 0, none⟩) 2 2, .slice none 0 0, .slice none 0 0, .int .i64 6] 27 (0, 0)) := by
  unfold wU
  rw [alloc_old _ _ _ (by simp only [World.size_alloc]; omega)]
  exact alloc_at _ _ _ (by simp only [World.size_alloc])
theorem wU_3 (w : World) : (wU w).heap[w.heap.size + 1 + 1 + 1]? = some (.cells (cl4s cls0).toArray 61 (0, 0)) := by
  unfold wU
  exact alloc_at _ _ _ (by simp only [World.size_alloc])
theorem wU_bel (w : World) : Below w.heap.size w (wU w) := by
  unfold wU
  exact ((((Below.refl _ w).alloc (Nat.le_refl _) _).alloc (by simp only [World.size_alloc]; omega) _).alloc (by simp only [World.size_alloc]; omega) _).alloc (by simp only [World.size_alloc]; omega) _
theorem Un.start {w wB : World} {p n : Nat} {ad : Option Addr} {B : Nat} {nv cv : Value} (h : Ks w wB p n ad) (e : wB.heap[B]? = some (.cells #[nv, cv, .slice none 0 0, .slice none 0 0, .int .i64 6] 27 (0, 0))) (hb : w.heap.size ≤ B) : Un w wB wB p n ad B nv cv (.slice none 0 0) (.slice none 0 0) :=
  ⟨h, Cg.refl _ _, cell_in e rfl, cell_in e rfl, cell_in e rfl, cell_in e rfl, cell_in e rfl, fun j => loose_in e, hb, (Array.getElem?_eq_some_iff.1 e).1⟩
theorem row_of {w : World} {b g sz m : Nat} {C : Array Value} {T : TypeId} (h : w.heap[g]? = some (.cells C T (0, 0))) (hb : b ≤ g) (hs : C.size = m * sz) (hm : m ≤ maxLen) : w.ownsRow b T sz (.slice (some ⟨g, 0, none⟩) m m) m C.toList :=
  ⟨by simpa using hs, Or.inr ⟨g, m, C, rfl, hb, h, Nat.le_refl _, hm, hs, by rw [← hs]; exact List.take_of_length_le (by simp)⟩⟩
/-- while the classes are made -/
structure P1 (w wB wr : World) (p n : Nat) (ad : Option Addr) (B : Nat) (nv cv : Value) (m : Nat) (T : List (ClassA × Value)) : Prop where
  un : Un w wB wr p n ad B nv cv (.slice none 0 0) (.slice none 0 0)
  row : wr.ownsRow (B + 1) 61 4 cv m (cl4s T)
  len : m = T.length
  cls : Cls T
section
variable {w wB w1 w2 : World} {p n B m : Nat} {ad : Option Addr} {nv cv : Value} {T : List (ClassA × Value)}
theorem P1.next (h : P1 w wB w1 p n ad B nv cv m T) (t : Tp w2 p ad n) (c : Cg (fun k => k = p) w1 w2) : P1 w wB w2 p n ad B nv cv m T :=
  ⟨h.un.next t c, row_next h.row c (by have := h.un.pB; omega), h.len, h.cls⟩
theorem P1.keep (h : P1 w wB w1 p n ad B nv cv m T) (b : Below w1.heap.size w1 w2) : P1 w wB w2 p n ad B nv cv m T :=
  ⟨h.un.keep b, row_bel h.row b, h.len, h.cls⟩
/-- a class in a box of its own at D -/
structure Q1 (w wB wr : World) (p n : Nat) (ad : Option Addr) (B : Nat) (nv cv : Value) (m : Nat) (T : List (ClassA × Value)) (D : Nat) (nm : ByteArray) (s f : Int) : Prop where
  p1 : P1 w wB wr p n ad B nv cv m T
  k0 : wr.cell? ⟨D, 0, none⟩ = some (.string nm)
  k1 : wr.cell? ⟨D, 1, none⟩ = some (.int .i64 s)
  k2 : wr.cell? ⟨D, 2, none⟩ = some (.int .i64 f)
  k3 : wr.cell? ⟨D, 3, none⟩ = some (.slice none 0 0)
  kz : ∀ j, wr.frozen? ⟨D, j, none⟩ = false
  bD : B < D
  nD : cv.ownBlock ≠ some D
variable {D : Nat} {nm : ByteArray} {s f : Int}
theorem Q1.block (h : Q1 w wB w1 p n ad B nv cv m T D nm s f) (p1 : P1 w wB w2 p n ad B nv cv m T) (e : w2.heap[D]? = w1.heap[D]?) : Q1 w wB w2 p n ad B nv cv m T D nm s f :=
  ⟨p1, (World.cell?_of_block (a := ⟨D, 0, none⟩) e).trans h.k0, (World.cell?_of_block (a := ⟨D, 1, none⟩) e).trans h.k1, (World.cell?_of_block (a := ⟨D, 2, none⟩) e).trans h.k2, (World.cell?_of_block (a := ⟨D, 3, none⟩) e).trans h.k3, fun j => (World.frozen?_of_block (a := ⟨D, j, none⟩) e).trans (h.kz j), h.bD, h.nD⟩
theorem Q1.lt (h : Q1 w wB w1 p n ad B nv cv m T D nm s f) : D < w1.heap.size := World.block_lt_of_cell? w1 _ h.k0
theorem Q1.next (h : Q1 w wB w1 p n ad B nv cv m T D nm s f) (t : Tp w2 p ad n) (c : Cg (fun k => k = p) w1 w2) : Q1 w wB w2 p n ad B nv cv m T D nm s f :=
  h.block (h.p1.next t c) (c.block D h.lt (fun e => by have := h.bD; have := h.p1.un.pB; omega))
theorem Q1.keep (h : Q1 w wB w1 p n ad B nv cv m T D nm s f) (b : Below w1.heap.size w1 w2) : Q1 w wB w2 p n ad B nv cv m T D nm s f :=
  h.block (h.p1.keep b) (b.block D h.lt)
theorem Q1.start (h : P1 w wB w1 p n ad B nv cv m T) (hw : w2 = w1.alloc (.cells #[.string nm, .int .i64 s, .int .i64 f, .slice none 0 0] 61)) : Q1 w wB w2 p n ad B nv cv m T w1.heap.size nm s f := by
  subst hw
  have e : (w1.alloc (.cells #[.string nm, .int .i64 s, .int .i64 f, .slice none 0 0] 61)).heap[w1.heap.size]? = some (.cells #[.string nm, .int .i64 s, .int .i64 f, .slice none 0 0] 61 (0, 0)) := alloc_at _ _ _ rfl
  exact ⟨h.keep ((Below.refl _ _).alloc (Nat.le_refl _) _), cell_in e rfl, cell_in e rfl, cell_in e rfl, cell_in e rfl, fun j => loose_in e, h.un.lt, fun e => by have := (h.row.lt _ e).2; omega⟩
theorem Q1.far (h : P1 w wB w1 p n ad B nv cv m T) (bD : B < D) (nD : cv.ownBlock ≠ some D) (j : Nat) (x : Value) : P1 w wB (w1.setCell ⟨D, j, none⟩ x) p n ad B nv cv m T :=
  ⟨h.un.far (F := fun k => k = D) ((Cg.refl (fun k => k = D) w1).set ⟨D, j, none⟩ rfl x) (fun k hk => by omega), row_set h.row _ _ nD, h.len, h.cls⟩
theorem Q1.sup (h : Q1 w wB w1 p n ad B nv cv m T D nm s f) (s' : Int) : Q1 w wB (w1.setCell ⟨D, 1, none⟩ (.int .i64 s')) p n ad B nv cv m T D nm s' f :=
  ⟨Q1.far h.p1 h.bD h.nD 1 _, (World.cell?_setCell_other _ _ _ _ (by intro e; cases e)).trans h.k0, World.cell?_setCell_same _ _ _ h.k1, (World.cell?_setCell_other _ _ _ _ (by intro e; cases e)).trans h.k2, (World.cell?_setCell_other _ _ _ _ (by intro e; cases e)).trans h.k3, fun j => (World.frozen?_setCell _ _ _ _).trans (h.kz j), h.bD, h.nD⟩
theorem Q1.fld (h : Q1 w wB w1 p n ad B nv cv m T D nm s f) (f' : Int) : Q1 w wB (w1.setCell ⟨D, 2, none⟩ (.int .i64 f')) p n ad B nv cv m T D nm s f' :=
  ⟨Q1.far h.p1 h.bD h.nD 2 _, (World.cell?_setCell_other _ _ _ _ (by intro e; cases e)).trans h.k0, (World.cell?_setCell_other _ _ _ _ (by intro e; cases e)).trans h.k1, World.cell?_setCell_same _ _ _ h.k2, (World.cell?_setCell_other _ _ _ _ (by intro e; cases e)).trans h.k3, fun j => (World.frozen?_setCell _ _ _ _).trans (h.kz j), h.bD, h.nD⟩
theorem P1.grown {wA : World} (h : P1 w wB w1 p n ad B nv cv m T) (hA : Below w1.heap.size w1 wA) (hg : wA.grownBy w2 cv.ownBlock) : Un w wB w2 p n ad B nv cv (.slice none 0 0) (.slice none 0 0) :=
  h.un.far ((Cg.below _ hA).grown hg (fun k e => Or.inl e)) (fun k hk => by have := (h.row.lt k hk).1; omega)
/-- a class is added -/
theorem P1.add {wA : World} {v' : Value} {c : ClassA} (h : P1 w wB w1 p n ad B nv cv m T) (hA : Below w1.heap.size w1 wA) (ho : w2.ownsRow (B + 1) 61 4 v' (m + 1) (cl4s T ++ cl4 c (.slice none 0 0))) (hg : wA.grownBy w2 cv.ownBlock) (hc : clsOk (T.map (·.1)) T.length c) (hb : c.binds = []) : P1 w wB (w2.setCell ⟨B, 1, none⟩ v') p n ad B nv v' (m + 1) (T ++ [(c, .slice none 0 0)]) := by
  have hc1 : Cg (fun k => cv.ownBlock = some k) w1 w2 := (Cg.below _ hA).grown hg (fun k e => Or.inl e)
  have hu := h.un.far hc1 (fun k hk => by have := (h.row.lt k hk).1; omega)
  refine ⟨hu.put1 v', row_set ?_ _ _ (fun e => by have := (ho.lt _ e).1; simp only at this; omega), by simp [h.len], h.cls.add hc hb⟩
  rw [cl4s_app]
  simpa [cl4s] using ho
end
theorem row_some {w : World} {b sz m cp : Nat} {e : TypeId} {a : Option Addr} {xs : List Value} (h : w.ownsRow b e sz (.slice a m cp) m xs) (hm : 0 < m) : ∃ g, a = some ⟨g, 0, none⟩ := by
  rcases h.2 with ⟨_, h0⟩ | ⟨g, cap, cur, e1, _⟩
  · omega
  · cases e1; exact ⟨g, rfl⟩
theorem clsOk.plain (L : List ClassA) (i k : Nat) (f : Int) (hk : k = 2 + i) (f0 : 0 ≤ f) (f1 : f ≤ 3) : clsOk L k ⟨cName i, -1, f, []⟩ := by
  subst hk
  exact ⟨fun h => by omega, fun h => by omega, fun _ => by simp, fun _ => Or.inl rfl, fun _ => ⟨f0, by simp only; omega⟩⟩
theorem clsOk.sub {L : List ClassA} {i k j : Nat} {d : ClassA} {f : Int} (hk : k = 2 + i) (hj : 2 ≤ j) (hjk : j < k) (hd : L[j]? = some d) (od : clsOk L j d) (f0 : d.fields ≤ f) (f1 : f ≤ d.fields + 2) : clsOk L k ⟨cName i, j, f, []⟩ := by
  subst hk
  obtain ⟨g0, g1⟩ := od.fld hj
  refine ⟨fun h => by omega, fun h => by omega, fun _ => by simp, fun _ => Or.inr ⟨by simp only; omega, by simp only; omega, d, by simpa using hd, f0⟩, fun _ => ⟨by simp only; omega, by simp only; omega⟩⟩
theorem cl4_at {w : World} {g : Nat} {c : ClassA} {bv : Value} (h0 : w.cell? ⟨g, 0, none⟩ = some (.string c.nm)) (h1 : w.cell? ⟨g, 1, none⟩ = some (.int .i64 c.super)) (h2 : w.cell? ⟨g, 2, none⟩ = some (.int .i64 c.fields)) (h3 : w.cell? ⟨g, 3, none⟩ = some bv) : ∀ j v, (cl4 c bv)[j]? = some v → w.cell? ((⟨g, 0, none⟩ : Addr).add j) = some v := by
  intro j v hu
  match j, hu with
  | 0, hu =>
    simp [cl4] at hu; subst hu
    rw [Addr.add_lit]; exact h0
  | 1, hu =>
    simp [cl4] at hu; subst hu
    rw [Addr.add_lit]; exact h1
  | 2, hu =>
    simp [cl4] at hu; subst hu
    rw [Addr.add_lit]; exact h2
  | 3, hu =>
    simp [cl4] at hu; subst hu
    rw [Addr.add_lit]; exact h3
theorem cl4_one (c : ClassA) (bv : Value) (hb : ∃ a m c, bv = .slice a m c) : ∀ u ∈ cl4 c bv, u.oneCell' = true := by
  intro u hu
  simp only [cl4, List.mem_cons, List.not_mem_nil, or_false] at hu
  rcases hu with rfl | rfl | rfl | rfl
  · rfl
  · rfl
  · rfl
  · exact sl_one hb
theorem infoCls : (Try.prog.info? 61).map (fun i => (i.zero, i.size, i.bytes)) = some (some (.agg #[.string ByteArray.empty, .int .i64 0, .int .i64 0, .slice none 0 0]), 4, 56) := by kernel_rfl
theorem Un.s3 {w wB w1 : World} {p n B : Nat} {ad : Option Addr} {nv cv mv ov : Value} (h : Un w wB w1 p n ad B nv cv mv ov) : w1.cell? ⟨B, 1, none⟩ = some cv ∧ w1.cell? ⟨B, 2, none⟩ = some mv ∧ w1.frozen? ⟨B, 2, none⟩ = false := ⟨h.c1, h.c2, h.z 2⟩
/-- while the methods are made -/
structure P2 (w wB wr : World) (p n : Nat) (ad : Option Addr) (B : Nat) (nv cv : Value) (m : Nat) (T : List (ClassA × Value)) (H : Nat) (mv : Value) (k : Nat) (M : List (MethA × Value × Value)) : Prop where
  un : Un w wB wr p n ad B nv cv mv (.slice none 0 0)
  row : wr.ownsRow (B + 1) 61 4 cv m (cl4s T)
  rlt : ∀ b, cv.ownBlock = some b → b < H
  len : m = T.length
  cls : Cls T
  HB : B < H
  Hsz : H ≤ wr.heap.size
  mr : MRow H wr (m : Int) mv k M
theorem Sub2.made {H : Nat} {w : World} {X : List (Int × Int)} {C : List Int} {lv kv : Value} (a t : Int) (rl : w.ownsRow H 41 2 lv 14 (pr2 X)) (rk : w.ownsRow H 5 1 kv C.length (bys C)) : Sub2 H w (⟨a, t, X, C⟩, lv, kv) := by
  refine ⟨?_, rk⟩
  have h1 := rl.1
  rw [pr2_len] at h1
  have : X.length = 14 := by omega
  rw [this]; exact rl
theorem meth3 {c : Int} (x y z : MethA × Value × Value) (hx : methOk c 6 x.1) (hy : methOk c 7 y.1) (hz : methOk c 8 z.1) : ∀ (j : Nat) u, [x, y, z][j]? = some u → methOk c (6 + j) u.1 := by
  intro j u hu
  match j, hu with
  | 0, hu => simp at hu; subst hu; exact hx
  | 1, hu => simp at hu; subst hu; exact hy
  | 2, hu => simp at hu; subst hu; exact hz
  | j + 3, hu => simp at hu
theorem Sub2.base {H H' : Nat} {w : World} {x : MethA × Value × Value} (h : Sub2 H' w x) (hH : H ≤ H') : Sub2 H w x :=
  ⟨row_base h.l (fun b hb => Nat.le_trans hH (h.l.lt b hb).1), row_base h.c (fun b hb => Nat.le_trans hH (h.c.lt b hb).1)⟩
section
variable {w wB w1 w2 : World} {p n B m H k : Nat} {ad : Option Addr} {nv cv mv : Value} {T : List (ClassA × Value)} {M : List (MethA × Value × Value)}
theorem P2.start (h : P1 w wB w1 p n ad B nv cv m T) : P2 w wB w1 p n ad B nv cv m T w1.heap.size (.slice none 0 0) 0 [] :=
  ⟨h.un, h.row, fun b hb => (h.row.lt b hb).2, h.len, h.cls, h.un.lt, Nat.le_refl _, MRow.start _ _ _⟩
theorem P2.next (h : P2 w wB w1 p n ad B nv cv m T H mv k M) (t : Tp w2 p ad n) (c : Cg (fun k => k = p) w1 w2) : P2 w wB w2 p n ad B nv cv m T H mv k M :=
  ⟨h.un.next t c, row_next h.row c (by have := h.un.pB; omega), h.rlt, h.len, h.cls, h.HB, Nat.le_trans h.Hsz c.size, h.mr.carry c (fun b hb => by have := h.un.pB; have := h.HB; omega)⟩
theorem P2.keep (h : P2 w wB w1 p n ad B nv cv m T H mv k M) (b : Below w1.heap.size w1 w2) : P2 w wB w2 p n ad B nv cv m T H mv k M :=
  ⟨h.un.keep b, row_bel h.row b, h.rlt, h.len, h.cls, h.HB, Nat.le_trans h.Hsz b.size, h.mr.bel b⟩
theorem P2.grown (h : P2 w wB w1 p n ad B nv cv m T H mv k M) {wA : World} (hA : Below w1.heap.size w1 wA) (hg : wA.grownBy w2 mv.ownBlock) : Un w wB w2 p n ad B nv cv mv (.slice none 0 0) :=
  h.un.far ((Cg.below _ hA).grown hg (fun k e => Or.inl e)) (fun b hb => by have := (h.mr.row.lt b hb).1; have := h.HB; omega)
theorem P2.add (h : P2 w wB w1 p n ad B nv cv m T H mv k M) {wA : World} {mv' : Value} {q : Nat} {N : List (MethA × Value × Value)} (hm : q = N.length) (hN : ∀ x ∈ N, Sub2 H w1 x) (hs : ∀ x ∈ N, ∀ b, mv.ownBlock = some b → x.2.1.ownBlock ≠ some b ∧ x.2.2.ownBlock ≠ some b) (hA : Below w1.heap.size w1 wA) (ho : w2.ownsRow H 37 4 mv' (k + q) (mt4s M ++ mt4s N)) (hg : wA.grownBy w2 mv.ownBlock) (hat : ∀ b, mv'.ownBlock = some b → mv.ownBlock = some b ∨ b = wA.heap.size) (hok : ∀ (j : Nat) x, N[j]? = some x → methOk (m : Int) (k + j) x.1) : P2 w wB (w2.setCell ⟨B, 2, none⟩ mv') p n ad B nv cv m T H mv' (k + q) (M ++ N) := by
  have hu := h.grown hA hg
  have hc1 : Cg (fun b => mv.ownBlock = some b) w1 w2 := (Cg.below _ hA).grown hg (fun b e => Or.inl e)
  have hset : Cg (fun b => b = B) w2 (w2.setCell ⟨B, 2, none⟩ mv') := (Cg.refl (fun b => b = B) w2).set ⟨B, 2, none⟩ rfl mv'
  refine ⟨hu.put2 mv', row_cg (row_cg h.row hc1 (fun b hb hf => ?_)) hset (fun b hb hf => ?_), h.rlt, h.len, h.cls, h.HB, ?_, (h.mr.add hm hN hs hA ho hg hat hok).carry hset (fun b hb => by have := h.HB; omega)⟩
  · have := h.rlt b hb; have := (h.mr.row.lt b hf).1; omega
  · have := (h.row.lt b hb).1; omega
  · have := h.Hsz; have := hc1.size; have := hset.size; omega
end
/-- some of the names below k, rising -/
def bndSub (k : Nat) (b : List (Int × Int)) : Prop := ∃ S : List Nat, S.Pairwise (· < ·) ∧ (∀ s ∈ S, s < k) ∧ b = S.map (fun (s : Nat) => ((s : Int), (s : Int)))
theorem bndSub.nil (k : Nat) : bndSub k [] := ⟨[], List.Pairwise.nil, by simp, rfl⟩
theorem bndSub.mono {k k' : Nat} {b : List (Int × Int)} (h : bndSub k b) (hk : k ≤ k') : bndSub k' b := by
  obtain ⟨S, h1, h2, h3⟩ := h
  exact ⟨S, h1, fun s hs => Nat.lt_of_lt_of_le (h2 s hs) hk, h3⟩
theorem bndSub.add {k : Nat} {b : List (Int × Int)} (h : bndSub k b) : bndSub (k + 1) (b ++ [((k : Int), (k : Int))]) := by
  obtain ⟨S, h1, h2, rfl⟩ := h
  refine ⟨S ++ [k], List.pairwise_append.2 ⟨h1, List.pairwise_singleton _ _, fun a ha c hc => by rw [List.mem_singleton.1 hc]; exact h2 a ha⟩, fun s hs => ?_, by simp⟩
  rcases List.mem_append.1 hs with hs | hs
  · have := h2 s hs; omega
  · rw [List.mem_singleton.1 hs]; omega
theorem rise_len (k : Nat) : ∀ (S : List Nat) (lo : Nat), S.Pairwise (· < ·) → (∀ s ∈ S, lo ≤ s ∧ s < k) → S.length + lo ≤ k ∨ S = []
  | [], _, _, _ => Or.inr rfl
  | a :: S, lo, hp, hs => by
    left
    have h1 := hs a (by simp)
    have hp' := List.pairwise_cons.1 hp
    rcases rise_len k S (a + 1) hp'.2 (fun s h => ⟨hp'.1 s h, (hs s (by simp [h])).2⟩) with h | h
    · simp only [List.length_cons]; omega
    · subst h; simp; omega
theorem bndSub.len {k : Nat} {b : List (Int × Int)} (h : bndSub k b) : b.length ≤ k := by
  obtain ⟨S, h1, h2, rfl⟩ := h
  rcases rise_len k S 0 h1 (fun s hs => ⟨by omega, h2 s hs⟩) with h | h
  · simpa using h
  · subst h; simp
theorem clsOk.same {L L' : List ClassA} {j : Nat} {x x' : ClassA} (h : clsOk L j x) (h1 : x'.nm = x.nm) (h2 : x'.super = x.super) (h3 : x'.fields = x.fields) (hL : ∀ (i : Nat) d, L[i]? = some d → ∃ d', L'[i]? = some d' ∧ d'.fields = d.fields) : clsOk L' j x' := by
  refine ⟨by rw [h1, h2, h3]; exact h.z, by rw [h1, h2, h3]; exact h.o, by rw [h1]; exact h.nm, fun hj => ?_, by rw [h3]; exact h.fld⟩
  rw [h2, h3]
  rcases h.sup hj with e | ⟨e1, e2, d, e3, e4⟩
  · exact Or.inl e
  · obtain ⟨d', e5, e6⟩ := hL _ d e3
    exact Or.inr ⟨e1, e2, d', e5, by rw [e6]; exact e4⟩
theorem cl4s_set : ∀ (T : List (ClassA × Value)) (c : Nat) (x : ClassA × Value) (b : List (Int × Int)) (v : Value), T[c]? = some x → cl4s (T.set c (⟨x.1.nm, x.1.super, x.1.fields, b⟩, v)) = (cl4s T).set (c * 4 + 3) v
  | [], c, x, b, v, h => by simp at h
  | s :: T, 0, x, b, v, h => by simp at h; subst h; simp [cl4s, cl4]
  | s :: T, c + 1, x, b, v, h => by
    have := cl4s_set T c x b v (by simpa using h)
    rw [List.set_cons_succ, show (c + 1) * 4 + 3 = 4 + (c * 4 + 3) by omega]
    simp only [cl4s, this]
    rw [List.set_append_right _ _ (by simp [cl4])]
    simp [cl4]
theorem infoBind : (Try.prog.info? 64).map (fun i => (i.zero, i.size, i.bytes)) = some (some (.agg #[.int .i64 0, .int .i64 0]), 2, 16) := by kernel_rfl
/-- while the binds are made: up to class c, up to name k -/
structure P3 (w wB wr : World) (p n : Nat) (ad : Option Addr) (B : Nat) (nv : Value) (g cp m : Nat) (T : List (ClassA × Value)) (H : Nat) (mv : Value) (M : List (MethA × Value × Value)) (H3 c k : Nat) : Prop where
  un : Un w wB wr p n ad B nv (.slice (some ⟨g, 0, none⟩) m cp) mv (.slice none 0 0)
  row : wr.ownsRow (B + 1) 61 4 (.slice (some ⟨g, 0, none⟩) m cp) m (cl4s T)
  gH : g < H
  len : m = T.length
  HB : B < H
  HH : H ≤ H3
  Hsz : H3 ≤ wr.heap.size
  mr : MRow H wr (m : Int) mv 9 M
  mlt : ∀ b, mv.ownBlock = some b → b < H3
  slt : ∀ x ∈ M, ∀ b, (x.2.1.ownBlock = some b ∨ x.2.2.ownBlock = some b) → b < H3
  bnd : ∀ (j : Nat) x, T[j]? = some x → wr.ownsRow H3 64 2 x.2 x.1.binds.length (pr2 x.1.binds)
  bsep : ∀ (i j : Nat) x y, T[i]? = some x → T[j]? = some y → i ≠ j → ∀ b, x.2.ownBlock = some b → y.2.ownBlock ≠ some b
  ok : ∀ (j : Nat) x, T[j]? = some x → clsOk (T.map (·.1)) j x.1
  don : ∀ (j : Nat) x, T[j]? = some x → (j = 0 → x.1.binds = []) ∧ (1 ≤ j → j < c → bndSub 6 x.1.binds) ∧ (j = c → bndSub k x.1.binds) ∧ (c < j → x.1.binds = [])
section
variable {w wB w1 w2 : World} {p n B g cp m H H3 c k : Nat} {ad : Option Addr} {nv mv : Value} {T : List (ClassA × Value)} {M : List (MethA × Value × Value)}
theorem MRow.far {c : Int} {F : Nat → Prop} (h : MRow H w1 c mv k M) (cg : Cg F w1 w2) (hF : ∀ b, F b → b < H ∨ H3 ≤ b) (mlt : ∀ b, mv.ownBlock = some b → b < H3) (slt : ∀ x ∈ M, ∀ b, (x.2.1.ownBlock = some b ∨ x.2.2.ownBlock = some b) → b < H3) : MRow H w2 c mv k M :=
  ⟨row_cg h.row cg (fun b hb hf => by have := (h.row.lt b hb).1; have := hF b hf; have := mlt b hb; omega), h.len, fun x hx => (h.sub x hx).carry cg (fun b hb hf => ⟨fun e => by have := hF b hf; have := slt x hx b (Or.inl e); omega, fun e => by have := hF b hf; have := slt x hx b (Or.inr e); omega⟩), h.sep, h.ok⟩
theorem P3.start (h : P2 w wB w1 p n ad B nv (.slice (some ⟨g, 0, none⟩) m cp) m T H mv 9 M) : P3 w wB w1 p n ad B nv g cp m T H mv M w1.heap.size 1 0 := by
  refine ⟨h.un, h.row, h.rlt g rfl, h.len, h.HB, h.Hsz, Nat.le_refl _, h.mr, fun b hb => (h.mr.row.lt b hb).2, fun x hx b hb => ?_, fun j x hx => ?_, fun i j x y hx hy hij b hb => ?_, fun j x hx => (h.cls.ok j x hx).1, fun j x hx => ?_⟩
  · rcases hb with e | e
    · exact ((h.mr.sub x hx).l.lt b e).2
    · exact ((h.mr.sub x hx).c.lt b e).2
  · obtain ⟨_, e1, e2⟩ := h.cls.ok j x hx
    rw [e1, e2]; exact World.ownsRow_nil _ _ _ _
  · rw [(h.cls.ok i x hx).2.2] at hb
    cases hb
  · have e := (h.cls.ok j x hx).2.1
    rw [e]
    exact ⟨fun _ => rfl, fun _ _ => bndSub.nil _, fun _ => bndSub.nil _, fun _ => rfl⟩
theorem P3.move (h : P3 w wB w1 p n ad B nv g cp m T H mv M H3 c k) {F : Nat → Prop} (un : Un w wB w2 p n ad B nv (.slice (some ⟨g, 0, none⟩) m cp) mv (.slice none 0 0)) (cg : Cg F w1 w2) (hF : ∀ b, F b → b ≤ B) : P3 w wB w2 p n ad B nv g cp m T H mv M H3 c k :=
  ⟨un, row_cg h.row cg (fun b hb hf => by have := (h.row.lt b hb).1; have := hF b hf; omega), h.gH, h.len, h.HB, h.HH, Nat.le_trans h.Hsz cg.size, h.mr.carry cg (fun b hb => by have := hF b hb; have := h.HB; omega), h.mlt, h.slt, fun j x hx => row_cg (h.bnd j x hx) cg (fun b hb hf => by have := ((h.bnd j x hx).lt b hb).1; have := hF b hf; have := h.HB; have := h.HH; omega), h.bsep, h.ok, h.don⟩
theorem P3.next (h : P3 w wB w1 p n ad B nv g cp m T H mv M H3 c k) (t : Tp w2 p ad n) (cg : Cg (fun k => k = p) w1 w2) : P3 w wB w2 p n ad B nv g cp m T H mv M H3 c k :=
  h.move (h.un.next t cg) cg (fun b hb => by have := h.un.pB; omega)
theorem P3.keep (h : P3 w wB w1 p n ad B nv g cp m T H mv M H3 c k) (b : Below w1.heap.size w1 w2) : P3 w wB w2 p n ad B nv g cp m T H mv M H3 c k :=
  h.move (F := fun _ => False) (h.un.keep b) (Cg.below _ b) (fun _ hf => hf.elim)
theorem P3.skip (h : P3 w wB w1 p n ad B nv g cp m T H mv M H3 c k) : P3 w wB w1 p n ad B nv g cp m T H mv M H3 c (k + 1) :=
  ⟨h.un, h.row, h.gH, h.len, h.HB, h.HH, h.Hsz, h.mr, h.mlt, h.slt, h.bnd, h.bsep, h.ok, fun j x hx => by
    obtain ⟨a, b, d, e⟩ := h.don j x hx
    exact ⟨a, b, fun hj => (d hj).mono (by omega), e⟩⟩
theorem P3.over (h : P3 w wB w1 p n ad B nv g cp m T H mv M H3 c 6) (hc : 1 ≤ c) : P3 w wB w1 p n ad B nv g cp m T H mv M H3 (c + 1) 0 :=
  ⟨h.un, h.row, h.gH, h.len, h.HB, h.HH, h.Hsz, h.mr, h.mlt, h.slt, h.bnd, h.bsep, h.ok, fun j x hx => by
    obtain ⟨a, b, d, e⟩ := h.don j x hx
    refine ⟨a, fun h1 h2 => ?_, fun hj => by rw [e (by omega)]; exact bndSub.nil _, fun hj => e (by omega)⟩
    rcases (show j < c ∨ j = c by omega) with hj | hj
    · exact b h1 hj
    · exact d hj⟩
theorem P3.s24 (h : P3 w wB w1 p n ad B nv g cp m T H mv M H3 c k) {x : ClassA × Value} (hx : T[c]? = some x) : w1.cell? ⟨B, 1, none⟩ = some (.slice (some ⟨g, 0, none⟩) m cp) ∧ w1.cell? ⟨g, c * 4 + 3, none⟩ = some x.2 ∧ w1.frozen? ⟨g, c * 4 + 3, none⟩ = false :=
  ⟨h.un.c1, (h.row.cellAt _ (by have := (List.getElem?_eq_some_iff.1 hx).1; have := h.len; omega)).trans (cl4s_get T c x hx).2.2.2, h.row.frozenAt _⟩
/-- behind the append, ahead of the store -/
theorem P3.grown (h : P3 w wB w1 p n ad B nv g cp m T H mv M H3 c k) {x : ClassA × Value} (hx : T[c]? = some x) {wA : World} (hA : Below w1.heap.size w1 wA) (hg : wA.grownBy w2 x.2.ownBlock) : Un w wB w2 p n ad B nv (.slice (some ⟨g, 0, none⟩) m cp) mv (.slice none 0 0) ∧ w2.ownsRow (B + 1) 61 4 (.slice (some ⟨g, 0, none⟩) m cp) m (cl4s T) ∧ Cg (fun b => x.2.ownBlock = some b) w1 w2 := by
  have hc1 : Cg (fun b => x.2.ownBlock = some b) w1 w2 := (Cg.below _ hA).grown hg (fun b e => Or.inl e)
  have hb := fun b e => ((h.bnd c x hx).lt b e).1
  refine ⟨h.un.far hc1 (fun b e => by have := hb b e; have := h.HB; have := h.HH; omega), row_cg h.row hc1 (fun b e hf => ?_), hc1⟩
  have e1 : g = b := by simpa [Value.ownBlock] using e
  have := hb b hf; have := h.gH; have := h.HH; omega
theorem P3.add (h : P3 w wB w1 p n ad B nv g cp m T H mv M H3 c k) (hc : 1 ≤ c) {x : ClassA × Value} (hx : T[c]? = some x) {wA : World} {bv' : Value} (hA : Below w1.heap.size w1 wA) (ho : w2.ownsRow H3 64 2 bv' (x.1.binds.length + 1) (pr2 x.1.binds ++ pr2 [((k : Int), (k : Int))])) (hg : wA.grownBy w2 x.2.ownBlock) (hat : ∀ b, bv'.ownBlock = some b → x.2.ownBlock = some b ∨ b = wA.heap.size) : P3 w wB (w2.setCell ⟨g, c * 4 + 3, none⟩ bv') p n ad B nv g cp m (T.set c (⟨x.1.nm, x.1.super, x.1.fields, x.1.binds ++ [((k : Int), (k : Int))]⟩, bv')) H mv M H3 c (k + 1) := by
  obtain ⟨hu, hr, hc1⟩ := h.grown hx hA hg
  have hcT : c < T.length := (List.getElem?_eq_some_iff.1 hx).1
  have hgB : B < g := by have := (h.row.lt g rfl).1; omega
  have hset : Cg (fun b => b = g) w2 (w2.setCell ⟨g, c * 4 + 3, none⟩ bv') := (Cg.refl (fun b => b = g) w2).set ⟨g, c * 4 + 3, none⟩ rfl bv'
  have hgt : ∀ {j : Nat} {y : ClassA × Value}, (T.set c (⟨x.1.nm, x.1.super, x.1.fields, x.1.binds ++ [((k : Int), (k : Int))]⟩, bv'))[j]? = some y → (j = c ∧ y = (⟨x.1.nm, x.1.super, x.1.fields, x.1.binds ++ [((k : Int), (k : Int))]⟩, bv')) ∨ (j ≠ c ∧ T[j]? = some y) := by
    intro j y hy
    by_cases hj : c = j
    · subst hj
      rw [List.getElem?_set_self hcT] at hy
      exact Or.inl ⟨rfl, (Option.some.inj hy).symm⟩
    · rw [List.getElem?_set_ne hj] at hy
      exact Or.inr ⟨fun e => hj e.symm, hy⟩
  have hold := fun b e => ((h.bnd c x hx).lt b e)
  refine ⟨hu.far hset (fun b e => by omega), ?_, h.gH, by simp [h.len], h.HB, h.HH, ?_, ?_, h.mlt, h.slt, fun j y hy => ?_, fun i j y z hy hz hij b hb => ?_, fun j y hy => ?_, fun j y hy => ?_⟩
  · rw [cl4s_set T c x _ bv' hx]
    exact (hr.stored _ _).1
  · have := h.Hsz; have := hc1.size; have := hset.size; omega
  · exact (h.mr.far hc1 (fun b e => Or.inr (hold b e).1) h.mlt h.slt).carry hset (fun b e => by have := h.gH; omega)
  · rcases hgt hy with ⟨rfl, rfl⟩ | ⟨hj, hy⟩
    · have e1 : (x.1.binds ++ [((k : Int), (k : Int))]).length = x.1.binds.length + 1 := by simp
      have := row_cg ho hset (fun b e hf => by have := (ho.lt b e).1; have := h.gH; have := h.HH; omega)
      simp only [e1, pr2_app]
      exact this
    · have e0 := h.bnd j y hy
      exact row_cg (row_cg e0 hc1 (fun b e hf => h.bsep c j x y hx hy (fun e => hj e.symm) b hf e)) hset (fun b e hf => by have := (e0.lt b e).1; have := h.gH; have := h.HH; omega)
  · have key : ∀ {j : Nat} {y : ClassA × Value}, T[j]? = some y → j ≠ c → ∀ b, bv'.ownBlock = some b → y.2.ownBlock ≠ some b := fun {j y} hy hj b hb e => by
      rcases hat b hb with e1 | e1
      · exact h.bsep c j x y hx hy (fun e => hj e.symm) b e1 e
      · have := ((h.bnd j y hy).lt b e).2; have := hA.size; omega
    rcases hgt hy with ⟨rfl, rfl⟩ | ⟨hi, hy'⟩ <;> rcases hgt hz with ⟨rfl, rfl⟩ | ⟨hj, hz'⟩
    · exact absurd rfl hij
    · exact key hz' hj b hb
    · exact fun e => key hy' hi b e hb
    · exact h.bsep i j y z hy' hz' hij b hb
  · have hL : ∀ (i : Nat) d, (T.map (·.1))[i]? = some d → ∃ d', ((T.set c (⟨x.1.nm, x.1.super, x.1.fields, x.1.binds ++ [((k : Int), (k : Int))]⟩, bv')).map (·.1))[i]? = some d' ∧ d'.fields = d.fields := by
      intro i d hd
      obtain ⟨z, hz, rfl⟩ : ∃ z, T[i]? = some z ∧ z.1 = d := by simpa using hd
      by_cases hi : c = i
      · subst hi
        rw [hx] at hz
        cases hz
        exact ⟨⟨x.1.nm, x.1.super, x.1.fields, x.1.binds ++ [((k : Int), (k : Int))]⟩, by rw [List.getElem?_map, List.getElem?_set_self hcT]; rfl, rfl⟩
      · exact ⟨z.1, by rw [List.getElem?_map, List.getElem?_set_ne hi, hz]; rfl, rfl⟩
    rcases hgt hy with ⟨rfl, rfl⟩ | ⟨hj, hy⟩
    · exact (h.ok _ x hx).same rfl rfl rfl hL
    · exact (h.ok j y hy).same rfl rfl rfl hL
  · rcases hgt hy with ⟨rfl, rfl⟩ | ⟨hj, hy⟩
    · exact ⟨fun e => by omega, fun _ e => by omega, fun _ => ((h.don _ x hx).2.2.1 rfl).add, fun e => by omega⟩
    · obtain ⟨a, b, d, e⟩ := h.don j y hy
      exact ⟨a, b, fun e => absurd e hj, e⟩
end
end Wd
end Go.Proofs.Ythlijmdohejheaa
