/- A tape's program: its objects. -/
import Derived.Test.YthlijmdohejheaaKU1
namespace Go.Proofs.Ythlijmdohejheaa
open Go.RowKit
set_option linter.unusedVariables false
set_option maxRecDepth 20000
namespace Wd
/-- an object -/
structure ObjA where
  cls : Int
  flds : List (Int × Int)
def ob2s : List (ObjA × Value) → List Value
  | [] => []
  | x :: X => .int .i64 x.1.cls :: x.2 :: ob2s X
theorem ob2s_app : ∀ A B, ob2s (A ++ B) = ob2s A ++ ob2s B
  | [], _ => rfl
  | t :: A, B => by simp [ob2s, ob2s_app A B]
theorem ob2s_len : ∀ A, (ob2s A).length = A.length * 2
  | [] => rfl
  | t :: A => by simp only [ob2s, List.length_cons, ob2s_len A]; omega
theorem ob2s_get : ∀ (T : List (ObjA × Value)) (k : Nat) t, T[k]? = some t → (ob2s T)[k * 2]? = some (.int .i64 t.1.cls) ∧ (ob2s T)[k * 2 + 1]? = some t.2
  | [], k, t, h => by simp at h
  | s :: T, 0, t, h => by simp at h; subst h; simp [ob2s]
  | s :: T, k + 1, t, h => by
    have := ob2s_get T k t (by simpa using h)
    rw [show (k + 1) * 2 = k * 2 + 2 by omega]
    simpa [ob2s] using this
theorem ob2s_one : ∀ (T : List (ObjA × Value)), (∀ x ∈ T, ∃ a m c, x.2 = .slice a m c) → ∀ u ∈ ob2s T, u.oneCell' = true
  | [], _, u, h => by cases h
  | t :: T, hT, u, h => by
    simp only [ob2s, List.mem_cons] at h
    rcases h with rfl | rfl | h
    · rfl
    · exact sl_one (hT t (by simp))
    · exact ob2s_one T (fun x hx => hT x (by simp [hx])) u h
/-- a field's value; N: how many objects there are -/
def valOk (N : Nat) (v : Int × Int) : Prop := v = (0, 0) ∨ v = (1, 0) ∨ v = (2, 0) ∨ (v.1 = 3 ∧ -400 ≤ v.2 ∧ v.2 ≤ 499) ∨ (v.1 = 4 ∧ 0 ≤ v.2 ∧ v.2 < N)
/-- an object of a tape, j others ahead of it -/
structure objOk (L : List ClassA) (N j : Nat) (x : ObjA) : Prop where
  cls : (2 ≤ x.cls ∧ ∃ d, L[x.cls.toNat]? = some d ∧ (x.flds.length : Int) = d.fields) ∨ (0 < j ∧ x.cls = 1 ∧ x.flds.length ≤ 8)
  flds : ∀ v ∈ x.flds, valOk N v
/-- what is made of classes and methods, whole -/
structure Fin (wr : World) (B g cp m : Nat) (T : List (ClassA × Value)) (H : Nat) (mv : Value) (M : List (MethA × Value × Value)) (H3 H4 : Nat) : Prop where
  row : wr.ownsRow (B + 1) 61 4 (.slice (some ⟨g, 0, none⟩) m cp) m (cl4s T)
  len : m = T.length
  BH : B < H
  HH : H ≤ H3
  gl : g < H4
  mr : MRow H wr (m : Int) mv 9 M
  ml : ∀ b, mv.ownBlock = some b → b < H4
  sl : ∀ x ∈ M, ∀ b, (x.2.1.ownBlock = some b ∨ x.2.2.ownBlock = some b) → b < H4
  bnd : ∀ (j : Nat) x, T[j]? = some x → wr.ownsRow H3 64 2 x.2 x.1.binds.length (pr2 x.1.binds)
  bl : ∀ (j : Nat) x, T[j]? = some x → ∀ b, x.2.ownBlock = some b → b < H4
  ok : ∀ (j : Nat) x, T[j]? = some x → clsOk (T.map (·.1)) j x.1
  don : ∀ (j : Nat) x, T[j]? = some x → (j = 0 → x.1.binds = []) ∧ bndSub 6 x.1.binds
section
variable {w wB w1 w2 : World} {p n B g cp m H H3 H4 c k : Nat} {ad : Option Addr} {nv mv : Value} {T : List (ClassA × Value)} {M : List (MethA × Value × Value)}
theorem Fin.start (h : P3 w wB w1 p n ad B nv g cp m T H mv M H3 m 0) : Fin w1 B g cp m T H mv M H3 w1.heap.size := by
  refine ⟨h.row, h.len, h.HB, h.HH, (h.row.lt g rfl).2, h.mr, fun b hb => (h.mr.row.lt b hb).2, fun x hx b hb => ?_, h.bnd, fun j x hx b hb => ((h.bnd j x hx).lt b hb).2, h.ok, fun j x hx => ?_⟩
  · rcases hb with e | e
    · exact ((h.mr.sub x hx).l.lt b e).2
    · exact ((h.mr.sub x hx).c.lt b e).2
  · obtain ⟨a, b, _, _⟩ := h.don j x hx
    refine ⟨a, ?_⟩
    by_cases hj : j = 0
    · rw [a hj]; exact bndSub.nil _
    · exact b (by omega) (by have := (List.getElem?_eq_some_iff.1 hx).1; have := h.len; omega)
theorem Fin.carry (h : Fin w1 B g cp m T H mv M H3 H4) {F : Nat → Prop} (cg : Cg F w1 w2) (hF : ∀ b, F b → b ≤ B ∨ H4 ≤ b) : Fin w2 B g cp m T H mv M H3 H4 :=
  ⟨row_cg h.row cg (fun b hb hf => by have e : g = b := by simpa [Value.ownBlock] using hb
                                      have := (h.row.lt b hb).1; have := hF b hf; have := h.gl; omega), h.len, h.BH, h.HH, h.gl, h.mr.far cg (H3 := H4) (fun b hf => by have := hF b hf; have := h.BH; omega) h.ml h.sl, h.ml, h.sl, fun j x hx => row_cg (h.bnd j x hx) cg (fun b hb hf => by have := ((h.bnd j x hx).lt b hb).1; have := h.bl j x hx b hb; have := hF b hf; have := h.BH; have := h.HH; omega), h.bl, h.ok, h.don⟩
end
/-- while the objects are made -/
structure P4 (w wB wr : World) (p n : Nat) (ad : Option Addr) (B : Nat) (nv : Value) (g cp m : Nat) (T : List (ClassA × Value)) (H : Nat) (mv : Value) (M : List (MethA × Value × Value)) (H3 H4 N : Nat) (ov : Value) (k : Nat) (O : List (ObjA × Value)) : Prop where
  un : Un w wB wr p n ad B nv (.slice (some ⟨g, 0, none⟩) m cp) mv ov
  fin : Fin wr B g cp m T H mv M H3 H4
  row : wr.ownsRow H4 66 2 ov k (ob2s O)
  len : k = O.length
  sub : ∀ x ∈ O, wr.ownsRow H4 41 2 x.2 x.1.flds.length (pr2 x.1.flds)
  sep : ∀ x ∈ O, ∀ b, ov.ownBlock = some b → x.2.ownBlock ≠ some b
  ok : ∀ (j : Nat) x, O[j]? = some x → objOk (T.map (·.1)) N j x.1
  HB : B < H4
  Hsz : H4 ≤ wr.heap.size
section
variable {w wB w1 w2 : World} {p n B g cp m H H3 H4 N k : Nat} {ad : Option Addr} {nv mv ov : Value} {T : List (ClassA × Value)} {M : List (MethA × Value × Value)} {O : List (ObjA × Value)}
theorem P4.start (N : Nat) (h : P3 w wB w1 p n ad B nv g cp m T H mv M H3 m 0) : P4 w wB w1 p n ad B nv g cp m T H mv M H3 w1.heap.size N (.slice none 0 0) 0 [] :=
  ⟨h.un, Fin.start h, World.ownsRow_nil _ _ _ _, rfl, by simp, by simp, by simp, h.un.lt, Nat.le_refl _⟩
theorem P4.move (h : P4 w wB w1 p n ad B nv g cp m T H mv M H3 H4 N ov k O) {F : Nat → Prop} (un : Un w wB w2 p n ad B nv (.slice (some ⟨g, 0, none⟩) m cp) mv ov) (cg : Cg F w1 w2) (hF : ∀ b, F b → b ≤ B ∨ (H4 ≤ b ∧ ov.ownBlock ≠ some b ∧ ∀ x ∈ O, x.2.ownBlock ≠ some b)) : P4 w wB w2 p n ad B nv g cp m T H mv M H3 H4 N ov k O := by
  refine ⟨un, h.fin.carry cg (fun b hb => ?_), row_cg h.row cg (fun b hb hf => ?_), h.len, fun x hx => row_cg (h.sub x hx) cg (fun b hb hf => ?_), h.sep, h.ok, h.HB, Nat.le_trans h.Hsz cg.size⟩
  · rcases hF b hb with e | e
    · exact Or.inl e
    · exact Or.inr e.1
  · rcases hF b hf with e | e
    · have := (h.row.lt b hb).1; have := h.HB; omega
    · exact e.2.1 hb
  · rcases hF b hf with e | e
    · have := ((h.sub x hx).lt b hb).1; have := h.HB; omega
    · exact e.2.2 x hx hb
theorem P4.next (h : P4 w wB w1 p n ad B nv g cp m T H mv M H3 H4 N ov k O) (t : Tp w2 p ad n) (cg : Cg (fun k => k = p) w1 w2) : P4 w wB w2 p n ad B nv g cp m T H mv M H3 H4 N ov k O :=
  h.move (h.un.next t cg) cg (fun b hb => Or.inl (by have := h.un.pB; omega))
theorem P4.keep (h : P4 w wB w1 p n ad B nv g cp m T H mv M H3 H4 N ov k O) (b : Below w1.heap.size w1 w2) : P4 w wB w2 p n ad B nv g cp m T H mv M H3 H4 N ov k O :=
  h.move (F := fun _ => False) (h.un.keep b) (Cg.below _ b) (fun _ hf => hf.elim)
/-- an object in a box of its own at D -/
structure Q4 (w wB wr : World) (p n : Nat) (ad : Option Addr) (B : Nat) (nv : Value) (g cp m : Nat) (T : List (ClassA × Value)) (H : Nat) (mv : Value) (M : List (MethA × Value × Value)) (H3 H4 N : Nat) (ov : Value) (k : Nat) (O : List (ObjA × Value)) (D : Nat) (c : Int) (fv : Value) (f : Nat) (F : List (Int × Int)) : Prop where
  p4 : P4 w wB wr p n ad B nv g cp m T H mv M H3 H4 N ov k O
  d0 : wr.cell? ⟨D, 0, none⟩ = some (.int .i64 c)
  d1 : wr.cell? ⟨D, 1, none⟩ = some fv
  dz : ∀ j, wr.frozen? ⟨D, j, none⟩ = false
  HD : H4 ≤ D
  nD : ov.ownBlock ≠ some D
  sD : ∀ x ∈ O, x.2.ownBlock ≠ some D
  fr : wr.ownsRow H4 41 2 fv f (pr2 F)
  fl : f = F.length
  nf : fv.ownBlock ≠ some D
  of : ∀ b, fv.ownBlock = some b → ov.ownBlock ≠ some b ∧ ∀ x ∈ O, x.2.ownBlock ≠ some b
  fo : ∀ v ∈ F, valOk N v
variable {D f : Nat} {c : Int} {fv : Value} {F : List (Int × Int)}
theorem Q4.lt (h : Q4 w wB w1 p n ad B nv g cp m T H mv M H3 H4 N ov k O D c fv f F) : D < w1.heap.size := World.block_lt_of_cell? w1 _ h.d0
theorem Q4.start (h : P4 w wB w1 p n ad B nv g cp m T H mv M H3 H4 N ov k O) (hw : w2 = w1.alloc (.cells #[.int .i64 c, .slice none 0 0] 66)) : Q4 w wB w2 p n ad B nv g cp m T H mv M H3 H4 N ov k O w1.heap.size c (.slice none 0 0) 0 [] := by
  subst hw
  have e : (w1.alloc (.cells #[.int .i64 c, .slice none 0 0] 66)).heap[w1.heap.size]? = some (.cells #[.int .i64 c, .slice none 0 0] 66 (0, 0)) := alloc_at _ _ _ rfl
  exact ⟨h.keep ((Below.refl _ _).alloc (Nat.le_refl _) _), cell_in e rfl, cell_in e rfl, fun j => loose_in e, h.Hsz, fun e => by have := (h.row.lt _ e).2; omega, fun x hx e => by have := ((h.sub x hx).lt _ e).2; omega, World.ownsRow_nil _ _ _ _, rfl, fun e => (by cases e), fun b e => (by cases e), by simp⟩
theorem Q4.move (h : Q4 w wB w1 p n ad B nv g cp m T H mv M H3 H4 N ov k O D c fv f F) {G : Nat → Prop} (p4 : P4 w wB w2 p n ad B nv g cp m T H mv M H3 H4 N ov k O) (cg : Cg G w1 w2) (hG : ∀ b, G b → b ≤ B) : Q4 w wB w2 p n ad B nv g cp m T H mv M H3 H4 N ov k O D c fv f F := by
  have e : w2.heap[D]? = w1.heap[D]? := cg.block D h.lt (fun hf => by have := hG D hf; have := h.HD; have := h.p4.HB; omega)
  exact ⟨p4, (World.cell?_of_block (a := ⟨D, 0, none⟩) e).trans h.d0, (World.cell?_of_block (a := ⟨D, 1, none⟩) e).trans h.d1, fun j => (World.frozen?_of_block (a := ⟨D, j, none⟩) e).trans (h.dz j), h.HD, h.nD, h.sD, row_cg h.fr cg (fun b hb hf => by have := (h.fr.lt b hb).1; have := hG b hf; have := h.p4.HB; omega), h.fl, h.nf, h.of, h.fo⟩
theorem Q4.next (h : Q4 w wB w1 p n ad B nv g cp m T H mv M H3 H4 N ov k O D c fv f F) (t : Tp w2 p ad n) (cg : Cg (fun k => k = p) w1 w2) : Q4 w wB w2 p n ad B nv g cp m T H mv M H3 H4 N ov k O D c fv f F :=
  h.move (h.p4.next t cg) cg (fun b hb => by have := h.p4.un.pB; omega)
theorem Q4.keep (h : Q4 w wB w1 p n ad B nv g cp m T H mv M H3 H4 N ov k O D c fv f F) (b : Below w1.heap.size w1 w2) : Q4 w wB w2 p n ad B nv g cp m T H mv M H3 H4 N ov k O D c fv f F :=
  h.move (G := fun _ => False) (h.p4.keep b) (Cg.below _ b) (fun _ hf => hf.elim)
theorem Q4.box (h : Q4 w wB w1 p n ad B nv g cp m T H mv M H3 H4 N ov k O D c fv f F) (j : Nat) (x : Value) : P4 w wB (w1.setCell ⟨D, j, none⟩ x) p n ad B nv g cp m T H mv M H3 H4 N ov k O := by
  have hc : Cg (fun b => b = D) w1 (w1.setCell ⟨D, j, none⟩ x) := (Cg.refl (fun b => b = D) w1).set ⟨D, j, none⟩ rfl x
  exact h.p4.move (h.p4.un.far hc (fun b hb => by have := h.HD; have := h.p4.HB; omega)) hc (fun b hb => Or.inr (by subst hb; exact ⟨h.HD, h.nD, h.sD⟩))
theorem Q4.setc (h : Q4 w wB w1 p n ad B nv g cp m T H mv M H3 H4 N ov k O D c fv f F) (c' : Int) : Q4 w wB (w1.setCell ⟨D, 0, none⟩ (.int .i64 c')) p n ad B nv g cp m T H mv M H3 H4 N ov k O D c' fv f F :=
  ⟨h.box 0 _, World.cell?_setCell_same _ _ _ h.d0, (World.cell?_setCell_other _ _ _ _ (by intro e; cases e)).trans h.d1, fun j => (World.frozen?_setCell _ _ _ _).trans (h.dz j), h.HD, h.nD, h.sD, row_set h.fr _ _ h.nf, h.fl, h.nf, h.of, h.fo⟩
theorem Q4.s36 (h : Q4 w wB w1 p n ad B nv g cp m T H mv M H3 H4 N ov k O D c fv f F) : w1.cell? ⟨D, 1, none⟩ = some fv ∧ w1.frozen? ⟨D, 1, none⟩ = false := ⟨h.d1, h.dz 1⟩
/-- behind the append, ahead of the store -/
theorem Q4.grown (h : Q4 w wB w1 p n ad B nv g cp m T H mv M H3 H4 N ov k O D c fv f F) {wA : World} (hA : Below w1.heap.size w1 wA) (hg : wA.grownBy w2 fv.ownBlock) : P4 w wB w2 p n ad B nv g cp m T H mv M H3 H4 N ov k O ∧ w2.heap[D]? = w1.heap[D]? := by
  have hc1 : Cg (fun b => fv.ownBlock = some b) w1 w2 := (Cg.below _ hA).grown hg (fun b e => Or.inl e)
  have hb := fun b e => (h.fr.lt b e).1
  exact ⟨h.p4.move (h.p4.un.far hc1 (fun b e => by have := hb b e; have := h.p4.HB; omega)) hc1 (fun b e => Or.inr ⟨hb b e, h.of b e⟩), hc1.block D h.lt (fun e => h.nf e)⟩
theorem Q4.g36 (h : Q4 w wB w1 p n ad B nv g cp m T H mv M H3 H4 N ov k O D c fv f F) {wA : World} (hA : Below w1.heap.size w1 wA) (hg : wA.grownBy w2 fv.ownBlock) : w2.cell? ⟨D, 1, none⟩ = some fv ∧ w2.frozen? ⟨D, 1, none⟩ = false := by
  have e := (h.grown hA hg).2
  exact ⟨(World.cell?_of_block (a := ⟨D, 1, none⟩) e).trans h.d1, (World.frozen?_of_block (a := ⟨D, 1, none⟩) e).trans (h.dz 1)⟩
theorem Q4.app (h : Q4 w wB w1 p n ad B nv g cp m T H mv M H3 H4 N ov k O D c fv f F) {wA : World} {fv' : Value} {v : Int × Int} (hv : valOk N v) (hA : Below w1.heap.size w1 wA) (ho : w2.ownsRow H4 41 2 fv' (f + 1) (pr2 F ++ pr2 [v])) (hg : wA.grownBy w2 fv.ownBlock) (hat : ∀ b, fv'.ownBlock = some b → fv.ownBlock = some b ∨ b = wA.heap.size) : Q4 w wB (w2.setCell ⟨D, 1, none⟩ fv') p n ad B nv g cp m T H mv M H3 H4 N ov k O D c fv' (f + 1) (F ++ [v]) := by
  obtain ⟨hp, e⟩ := h.grown hA hg
  have hc : Cg (fun b => b = D) w2 (w2.setCell ⟨D, 1, none⟩ fv') := (Cg.refl (fun b => b = D) w2).set ⟨D, 1, none⟩ rfl fv'
  have hsz := hA.size
  have nf' : fv'.ownBlock ≠ some D := fun e => by
    rcases hat D e with e1 | e1
    · exact h.nf e1
    · have := h.lt; omega
  refine ⟨hp.move (hp.un.far hc (fun b hb => by have := h.HD; have := h.p4.HB; omega)) hc (fun b hb => Or.inr (by subst hb; exact ⟨h.HD, h.nD, h.sD⟩)), (World.cell?_setCell_other _ _ _ _ (by intro e; cases e)).trans ((World.cell?_of_block (a := ⟨D, 0, none⟩) e).trans h.d0), World.cell?_setCell_same _ _ _ ((World.cell?_of_block (a := ⟨D, 1, none⟩) e).trans h.d1), fun j => (World.frozen?_setCell _ _ _ _).trans ((World.frozen?_of_block (a := ⟨D, j, none⟩) e).trans (h.dz j)), h.HD, h.nD, h.sD, ?_, by simp [h.fl], nf', fun b hb => ?_, fun u hu => ?_⟩
  · rw [pr2_app]
    exact row_set ho _ _ nf'
  · rcases hat b hb with e1 | e1
    · exact h.of b e1
    · exact ⟨fun e2 => by have := (h.p4.row.lt b e2).2; omega, fun x hx e2 => by have := ((h.p4.sub x hx).lt b e2).2; omega⟩
  · rcases List.mem_append.1 hu with hu | hu
    · exact h.fo u hu
    · rw [List.mem_singleton.1 hu]; exact hv
/-- the object is appended -/
theorem Q4.un37 (h : Q4 w wB w1 p n ad B nv g cp m T H mv M H3 H4 N ov k O D c fv f F) {wA : World} (hA : Below w1.heap.size w1 wA) (hg : wA.grownBy w2 ov.ownBlock) : Un w wB w2 p n ad B nv (.slice (some ⟨g, 0, none⟩) m cp) mv ov ∧ Cg (fun b => ov.ownBlock = some b) w1 w2 := by
  have hc1 : Cg (fun b => ov.ownBlock = some b) w1 w2 := (Cg.below _ hA).grown hg (fun b e => Or.inl e)
  exact ⟨h.p4.un.far hc1 (fun b e => by have := (h.p4.row.lt b e).1; have := h.p4.HB; omega), hc1⟩
theorem Q4.add (h : Q4 w wB w1 p n ad B nv g cp m T H mv M H3 H4 N ov k O D c fv f F) {wA : World} {ov' : Value} (hok : objOk (T.map (·.1)) N k ⟨c, F⟩) (hA : Below w1.heap.size w1 wA) (ho : w2.ownsRow H4 66 2 ov' (k + 1) (ob2s O ++ ob2s [(⟨c, F⟩, fv)])) (hg : wA.grownBy w2 ov.ownBlock) (hat : ∀ b, ov'.ownBlock = some b → ov.ownBlock = some b ∨ b = wA.heap.size) : P4 w wB (w2.setCell ⟨B, 3, none⟩ ov') p n ad B nv g cp m T H mv M H3 H4 N ov' (k + 1) (O ++ [(⟨c, F⟩, fv)]) := by
  obtain ⟨hu, hc1⟩ := h.un37 hA hg
  have hc : Cg (fun b => b = B) w2 (w2.setCell ⟨B, 3, none⟩ ov') := (Cg.refl (fun b => b = B) w2).set ⟨B, 3, none⟩ rfl ov'
  have hsz := hA.size
  have hb := fun b e => (h.p4.row.lt b e).1
  have hall : ∀ x ∈ O ++ [((⟨c, F⟩ : ObjA), fv)], w1.ownsRow H4 41 2 x.2 x.1.flds.length (pr2 x.1.flds) ∧ ∀ b, ov.ownBlock = some b → x.2.ownBlock ≠ some b := fun x hx => by
    rcases List.mem_append.1 hx with hx | hx
    · exact ⟨h.p4.sub x hx, h.p4.sep x hx⟩
    · rw [List.mem_singleton.1 hx]
      refine ⟨by have := h.fr; rw [h.fl] at this; exact this, fun b e1 e2 => (h.of b e2).1 e1⟩
  refine ⟨hu.put3 ov', (h.p4.fin.carry hc1 (fun b e => Or.inr (hb b e))).carry hc (fun b e => Or.inl (by omega)), ?_, by simp [h.p4.len], fun x hx => row_cg (row_cg (hall x hx).1 hc1 (fun b e1 e2 => (hall x hx).2 b e2 e1)) hc (fun b e1 e2 => by have := ((hall x hx).1.lt b e1).1; have := h.p4.HB; omega), fun x hx b e1 e2 => ?_, fun j x hx => ?_, h.p4.HB, ?_⟩
  · rw [ob2s_app]
    exact row_set ho _ _ (fun e => by have := (ho.lt B e).1; have := h.p4.HB; omega)
  · rcases hat b e1 with e | e
    · exact (hall x hx).2 b e e2
    · have := ((hall x hx).1.lt b e2).2; omega
  · by_cases hj : j < O.length
    · rw [List.getElem?_append_left hj] at hx
      exact h.p4.ok j x hx
    · rw [List.getElem?_append_right (by omega)] at hx
      obtain rfl : j = O.length := by have := (List.getElem?_eq_some_iff.1 hx).1; simp at this; omega
      simp at hx; subst hx
      rw [← h.p4.len]; exact hok
  · have := h.p4.Hsz; have := hc1.size; have := hc.size; omega
end
/-- the five values of a field, of which one is taken -/
def sel5 (x z : Int) (j : Nat) : Int × Int := [((0 : Int), (0 : Int)), (1, 0), (2, 0), (3, x), (4, z)].getD j (0, 0)
theorem sel5_ok {N : Nat} {x z : Int} (hx : -400 ≤ x ∧ x ≤ 499) (hz : 0 ≤ z ∧ z < N) (j : Nat) (hj : j < 5) : valOk N (sel5 x z j) := by
  unfold valOk
  rcases (show j = 0 ∨ j = 1 ∨ j = 2 ∨ j = 3 ∨ j = 4 by omega) with rfl | rfl | rfl | rfl | rfl
  · exact Or.inl rfl
  · exact Or.inr (Or.inl rfl)
  · exact Or.inr (Or.inr (Or.inl rfl))
  · exact Or.inr (Or.inr (Or.inr (Or.inl ⟨rfl, hx⟩)))
  · exact Or.inr (Or.inr (Or.inr (Or.inr ⟨rfl, hz⟩)))
theorem born5 (w : World) (x z : Int) {j : Nat} (hj : j < 5) : (w.alloc (.cells #[.int .i64 0, .int .i64 0, .int .i64 1, .int .i64 0, .int .i64 2, .int .i64 0, .int .i64 3, .int .i64 x, .int .i64 4, .int .i64 z] 41)).cell? ⟨w.heap.size, j * 2, none⟩ = some (.int .i64 (sel5 x z j).1) ∧ (w.alloc (.cells #[.int .i64 0, .int .i64 0, .int .i64 1, .int .i64 0, .int .i64 2, .int .i64 0, .int .i64 3, .int .i64 x, .int .i64 4, .int .i64 z] 41)).cell? ⟨w.heap.size, j * 2 + 1, none⟩ = some (.int .i64 (sel5 x z j).2) := by
  rcases (show j = 0 ∨ j = 1 ∨ j = 2 ∨ j = 3 ∨ j = 4 by omega) with rfl | rfl | rfl | rfl | rfl <;> simp [sel5]
theorem infoObj : (Try.prog.info? 66).map (fun i => (i.zero, i.size, i.bytes)) = some (some (.agg #[.int .i64 0, .slice none 0 0]), 2, 32) := by kernel_rfl
end Wd
end Go.Proofs.Ythlijmdohejheaa
