/- Texts joined: UOL. -/
import Derived.Test.YtgfdgdbkifkehaaGreatJ6
/- Turning a program: the fields of an object that are all written. -/
namespace Go.Proofs.YtgfdgdbkifkehaaGreat
open Go.RowKit
set_option linter.unusedVariables false
set_option maxRecDepth 20000
namespace Wd
/-- the object k has the fields B, which lie in block g3; all else is as it came -/
structure OL (w0 wr : World) (b : Nat) (N : List ByteArray) (T : List (ClassA × Value)) (M : List (MethA × Value × Value)) (O : List (ObjA × Value)) (nv cv mv ov : Value) (main : Int) (k : Nat) (c : Int) (B : List (Int × Int)) (g3 n3 c3 : Nat) : Prop where
  bx : OB w0 wr nv cv mv ov main
  on : wr.ownsRow (w0.heap.size + 2) 9 1 nv N.length (strs N)
  oc : wr.ownsRow (w0.heap.size + 2) 45 4 cv T.length (cl4s T)
  om : wr.ownsRow (w0.heap.size + 2) 50 4 mv M.length (mt4s M)
  oo : wr.ownsRow (w0.heap.size + 2) 55 2 ov O.length (ob2s (O.set k (⟨c, B⟩, .slice (some ⟨g3, 0, none⟩) n3 c3)))
  o3 : wr.ownsRow (w0.heap.size + 2) 57 2 (.slice (some ⟨g3, 0, none⟩) n3 c3) n3 (pr2 B)
  bl : B.length = n3
  b64 : ∀ x ∈ B, In64 x.1 ∧ In64 x.2
  nb : n3 ≤ b
  c64 : In64 c
  ic : ∀ x ∈ T, In64 x.1.super ∧ In64 x.1.fields ∧ x.1.binds.length ≤ b ∧ StP w0.heap.size (fun _ => False) wr x.2 x.1.binds
  im : ∀ x ∈ M, In64 x.1.args ∧ In64 x.1.temps ∧ x.1.lits.length ≤ b ∧ x.1.code.length ≤ b ∧ StP w0.heap.size (fun _ => False) wr x.2.1 x.1.lits ∧ StB w0.heap.size (fun _ => False) wr x.2.2 x.1.code
  io : ∀ x ∈ O, In64 x.1.cls ∧ x.1.flds.length ≤ b ∧ StP w0.heap.size (fun _ => False) wr x.2 x.1.flds
  a3 : nv.ownBlock ≠ some g3 ∧ cv.ownBlock ≠ some g3 ∧ mv.ownBlock ≠ some g3 ∧ ov.ownBlock ≠ some g3
  hk : k < O.length
  ct : 1 ≤ T.length ∧ 1 ≤ M.length ∧ 1 ≤ O.length
  cn : N.length ≤ b ∧ T.length ≤ b ∧ M.length ≤ b ∧ O.length ≤ b
  ns : ∀ x ∈ N, x.size ≤ 140737488355328
  cs : ∀ x ∈ T, x.1.nm.size ≤ 140737488355328
section
variable {w0 wr w1 : World} {b b' : Nat} {N : List ByteArray} {T : List (ClassA × Value)} {M : List (MethA × Value × Value)} {O : List (ObjA × Value)} {nv cv mv ov : Value} {main : Int} {k : Nat} {c : Int} {B : List (Int × Int)} {g3 n3 c3 : Nat}
theorem ob2s_same : ∀ (O : List (ObjA × Value)) (k : Nat) (c : Int) (B B' : List (Int × Int)) (v : Value), ob2s (O.set k (⟨c, B⟩, v)) = ob2s (O.set k (⟨c, B'⟩, v))
  | [], k, c, B, B', v => rfl
  | x :: O, 0, c, B, B', v => rfl
  | x :: O, k + 1, c, B, B', v => by simp only [List.set_cons_succ, ob2s, ob2s_same O k c B B' v]
theorem OL.turn (h : OL w0 wr b N T M O nv cv mv ov main k c B g3 n3 c3) {B' : List (Int × Int)} (cg : Cg (fun q => q = g3) wr w1) (h3 : w1.ownsRow (w0.heap.size + 2) 57 2 (.slice (some ⟨g3, 0, none⟩) n3 c3) n3 (pr2 B')) (hl : B'.length = n3) (hb : ∀ x ∈ B', In64 x.1 ∧ In64 x.2) : OL w0 w1 b N T M O nv cv mv ov main k c B' g3 n3 c3 := by
  have hg := (h.o3.lt g3 rfl).1
  have hi : ∀ q, q = g3 → w0.heap.size ≤ q ∧ ¬ False := fun q hq => ⟨by omega, fun e => e⟩
  obtain ⟨a1, a2, a3, a4⟩ := h.a3
  exact ⟨h.bx.cg cg (fun q hq => by omega), row_cg h.on cg (fun q e hf => a1 (by rw [e, hf])), row_cg h.oc cg (fun q e hf => a2 (by rw [e, hf])), row_cg h.om cg (fun q e hf => a3 (by rw [e, hf])), by rw [ob2s_same O k c B' B]; exact row_cg h.oo cg (fun q e hf => a4 (by rw [e, hf])), h3, hl, hb, h.nb, h.c64, fun x hx => by obtain ⟨a, d, e, f⟩ := h.ic x hx; exact ⟨a, d, e, f.cg cg hi⟩, fun x hx => by obtain ⟨a, d, e, f, p, q⟩ := h.im x hx; exact ⟨a, d, e, f, p.cg cg hi, q.cg cg hi⟩, fun x hx => by obtain ⟨a, d, e⟩ := h.io x hx; exact ⟨a, d, e.cg cg hi⟩, h.a3, h.hk, h.ct, h.cn, h.ns, h.cs⟩
theorem OL.up (h : OL w0 wr b N T M O nv cv mv ov main k c B g3 n3 c3) (bl : Below wr.heap.size wr w1) : OL w0 w1 b N T M O nv cv mv ov main k c B g3 n3 c3 :=
  h.turn (Cg.below _ bl) (row_bel h.o3 bl) h.bl h.b64
theorem OL.fin (h : OL w0 wr b N T M O nv cv mv ov main k c B g3 n3 c3) (hb : b ≤ b') : OUf w0 wr b' := by
  have hF : ∀ {v : Value} {e : TypeId} {sz n : Nat} {xs : List Value}, wr.ownsRow (w0.heap.size + 2) e sz v n xs → ∀ k, v.ownBlock = some k → ¬ k = w0.heap.size + 1 := fun hr k hk e => by have := (hr.lt k hk).1; omega
  have hi : ∀ k, k = w0.heap.size + 1 → w0.heap.size ≤ k ∧ ¬ False := fun k hk => ⟨by omega, fun e => e⟩
  have hmem : ∀ x ∈ O.set k (⟨c, B⟩, .slice (some ⟨g3, 0, none⟩) n3 c3), x = (⟨c, B⟩, .slice (some ⟨g3, 0, none⟩) n3 c3) ∨ x ∈ O := fun x hx => (List.mem_or_eq_of_mem_set hx).symm
  refine ⟨nv, cv, mv, ov, ⟨N, T.map (·.1), M.map (·.1), (O.set k (⟨c, B⟩, .slice (some ⟨g3, 0, none⟩) n3 c3)).map (·.1), main⟩, h.bx, fun w2 cg => ?_, ?_⟩
  · exact ⟨NmV.own2 (row_cg h.on cg (hF h.on)), ClV.own (row_cg h.oc cg (hF h.oc)) (fun x hx => by obtain ⟨a, d, _, f⟩ := h.ic x hx; exact ⟨a, d, (f.cg cg hi).view⟩), MtV.own (row_cg h.om cg (hF h.om)) (fun x hx => by obtain ⟨a, d, _, _, f, g⟩ := h.im x hx; exact ⟨a, d, (f.cg cg hi).view, (g.cg cg hi).view⟩), ObV.own (by rw [List.length_set]; exact row_cg h.oo cg (hF h.oo)) (fun x hx => by
      rcases hmem x hx with rfl | hx
      · have h3 := row_cg h.o3 cg (hF h.o3)
        rw [← h.bl] at h3
        have hp := PrV.own h3 h.b64
        rw [h.bl] at hp
        exact ⟨h.c64, hp⟩
      · obtain ⟨a, _, f⟩ := h.io x hx; exact ⟨a, (f.cg cg hi).view⟩)⟩
  · obtain ⟨p, q, r⟩ := h.ct
    obtain ⟨n1, n2, n3', n4⟩ := h.cn
    exact ⟨Nat.le_trans n1 hb, by simpa using p, by simpa using Nat.le_trans n2 hb, by simpa using q, by simpa using Nat.le_trans n3' hb, by simpa using r, by simpa using Nat.le_trans n4 hb, fun x hx => by obtain ⟨y, hy, rfl⟩ := List.mem_map.1 hx; exact Nat.le_trans (h.ic y hy).2.2.1 hb, fun x hx => by obtain ⟨y, hy, rfl⟩ := List.mem_map.1 hx; exact ⟨Nat.le_trans (h.im y hy).2.2.1 hb, Nat.le_trans (h.im y hy).2.2.2.1 hb⟩, fun x hx => by
      obtain ⟨y, hy, rfl⟩ := List.mem_map.1 hx
      rcases hmem y hy with rfl | hy
      · simp only; rw [h.bl]; exact Nat.le_trans h.nb hb
      · exact Nat.le_trans (h.io y hy).2.1 hb, h.ns, fun x hx => by obtain ⟨y, hy, rfl⟩ := List.mem_map.1 hx; exact h.cs y hy⟩
theorem OL.start {w3 : World} {ox : ObjA} {fv : Value} {g n cp : Nat} (h : OU w0 wr (fun _ => False) b N T M O nv cv mv (.slice (some ⟨g, 0, none⟩) n cp) main) (hn : O.length = n) (hx : O[k]? = some (ox, fv)) (B3 : Below wr.heap.size wr w3) (hg3 : wr.heap.size ≤ g3) (h3 : w3.ownsRow (w0.heap.size + 2) 57 2 (.slice (some ⟨g3, 0, none⟩) n3 c3) n3 (pr2 ox.flds)) (hl : ox.flds.length = n3) (hb : ∀ x ∈ ox.flds, In64 x.1 ∧ In64 x.2) :
    w3.cell? ⟨g, k * 2 + 1, none⟩ = some fv ∧ w3.frozen? ⟨g, k * 2 + 1, none⟩ = false ∧ OL w0 (w3.setCell ⟨g, k * 2 + 1, none⟩ (.slice (some ⟨g3, 0, none⟩) n3 c3)) b N T M O nv cv mv (.slice (some ⟨g, 0, none⟩) n cp) main k ox.cls ox.flds g3 n3 c3 := by
  have hk := (List.getElem?_eq_some_iff.1 hx).1
  have h1 := h.up B3
  have ho := h1.oo
  rw [hn] at ho
  have hgl := (h.oo.lt g rfl)
  have hget := ob2s_get O k _ hx
  have hup := (ob2s_up O k _ hx 0 ox.flds (.slice (some ⟨g3, 0, none⟩) n3 c3)).2
  simp only at hget hup
  have hst := (ho.stored (k * 2 + 1) (.slice (some ⟨g3, 0, none⟩) n3 c3)).1
  rw [← hup] at hst
  obtain ⟨a1, a2, a3, a4⟩ := h1.ap
  have c : Cg (fun q => q = g) w3 (w3.setCell ⟨g, k * 2 + 1, none⟩ (.slice (some ⟨g3, 0, none⟩) n3 c3)) := (Cg.refl (fun q => q = g) w3).set ⟨g, k * 2 + 1, none⟩ rfl _
  have hi : ∀ q, q = g → w0.heap.size ≤ q ∧ ¬ False := fun q hq => ⟨by omega, fun e => e⟩
  obtain ⟨s0, nf, _⟩ := h1.io _ (List.mem_of_getElem? hx)
  simp only at s0 nf
  refine ⟨(ho.cellAt (k * 2 + 1) (by omega)).trans hget.2, ho.frozenAt (k * 2 + 1), ?_⟩
  exact ⟨h1.bx.cg c (fun q hq => by omega), row_set h1.on _ _ (fun e => (a1 g e).2.2.1 rfl), row_set h1.oc _ _ (fun e => (a2 g e).2.1 rfl), row_set h1.om _ _ (fun e => (a3 g e).1 rfl), by rw [hn]; exact hst, row_set h3 _ _ (fun e => by have : g3 = g := (by simpa [Value.ownBlock] using e); omega), hl, hb, by rw [← hl]; exact nf, s0, fun x hx => by obtain ⟨a, d, e, f⟩ := h1.ic x hx; exact ⟨a, d, e, f.cg c hi⟩, fun x hx => by obtain ⟨a, d, e, f, p, q⟩ := h1.im x hx; exact ⟨a, d, e, f, p.cg c hi, q.cg c hi⟩, fun x hx => by obtain ⟨a, d, e⟩ := h1.io x hx; exact ⟨a, d, e.cg c hi⟩,
    ⟨fun e => by have := (h.on.lt _ e).2; omega, fun e => by have := (h.oc.lt _ e).2; omega, fun e => by have := (h.om.lt _ e).2; omega, fun e => by have := (h.oo.lt _ e).2; omega⟩, hk, h1.ct, h1.cn, h1.ns, h1.cs⟩
theorem OL.cell {g n cp : Nat} (h : OL w0 wr b N T M O nv cv mv (.slice (some ⟨g, 0, none⟩) n cp) main k c B g3 n3 c3) (hn : O.length = n) : wr.cell? ⟨g, k * 2 + 1, none⟩ = some (.slice (some ⟨g3, 0, none⟩) n3 c3) := by
  have hk := h.hk
  have ho := h.oo
  rw [hn] at ho
  exact (ho.cellAt (k * 2 + 1) (by omega)).trans (ob2s_get _ k _ (List.getElem?_set_self hk)).2
theorem pr2_two : ∀ (B : List (Int × Int)) (i : Nat), i < B.length → ∀ (x y : Int), pr2 (B.set i (x, y)) = ((pr2 B).set (i * 2) (.int .i64 x)).set (i * 2 + 1) (.int .i64 y)
  | [], i, h, _, _ => by simp at h
  | s :: T, 0, _, x, y => by simp [pr2]
  | s :: T, i + 1, h, x, y => by
    have := pr2_two T i (by simpa using h) x y
    rw [List.set_cons_succ, show (i + 1) * 2 = i * 2 + 2 by omega, show i * 2 + 2 + 1 = i * 2 + 1 + 2 by omega]
    simp [pr2, this]
/-- the field i is written -/
theorem OL.put (h : OL w0 wr b N T M O nv cv mv ov main k c B g3 n3 c3) {i : Nat} (hi : i < n3) (x y : Int) (hx : In64 x) (hy : In64 y) : OL w0 ((wr.setCell ⟨g3, i * 2, none⟩ (.int .i64 x)).setCell ⟨g3, i * 2 + 1, none⟩ (.int .i64 y)) b N T M O nv cv mv ov main k c (B.set i (x, y)) g3 n3 c3 := by
  have h1 := (h.o3.stored (i * 2) (.int .i64 x)).1
  have h2 := (h1.stored (i * 2 + 1) (.int .i64 y)).1
  rw [← pr2_two B i (by have := h.bl; omega) x y] at h2
  exact h.turn (((Cg.refl (fun q => q = g3) wr).set ⟨g3, i * 2, none⟩ rfl _).set ⟨g3, i * 2 + 1, none⟩ rfl _) h2 (by rw [List.length_set]; exact h.bl) (fun z hz => by
    rcases List.mem_or_eq_of_mem_set hz with hz | rfl
    · exact h.b64 z hz
    · exact ⟨hx, hy⟩)
end
end Wd
end Go.Proofs.YtgfdgdbkifkehaaGreat
