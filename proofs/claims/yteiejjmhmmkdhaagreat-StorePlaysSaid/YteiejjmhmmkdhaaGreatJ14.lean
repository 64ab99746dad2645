/- Texts joined: WM, WG, WN, UOV, UTP, WO, WP, WS, WV, YA, YB, YC. -/
import Derived.Test.YteiejjmhmmkdhaaGreatJ1
import Derived.Test.YteiejjmhmmkdhaaGreatJ7
import Derived.Test.YteiejjmhmmkdhaaGreatJ9
import Derived.Test.YteiejjmhmmkdhaaGreatJ12
import Derived.Test.YteiejjmhmmkdhaaGreatJ13
import Derived.Maps.AppendAt
import Derived.Deep.AppendLies
import Derived.SizedLaws
import Derived.ProofKit
import Derived.OpenShut
import Derived.Carry
import Derived.Laws.OwnMore
/- Load: what holds while objects are made. -/
namespace Go.Proofs.YteiejjmhmmkdhaaGreat
open Go.RowKit
set_option linter.unusedVariables false
set_option maxRecDepth 20000
namespace Wd
theorem Cg.toB {w w' : World} {F0 : Nat → Prop} {B : Nat} (c : Cg F0 w w') (hB : B ≤ w.heap.size) (hF0 : ∀ k, F0 k → B ≤ k) : Below B w w' :=
  ⟨c.os, c.tape, c.output, c.size, fun k hk => c.block k (by omega) (fun e => by have := hF0 k e; omega)⟩
/-- while Load makes objects: its boxes, the row of identities, who keeps objects -/
structure LdI {σ : Type} (P : World → σ → (Nat → Prop) → Prop) (w0 : World) (F0 : Nat → Prop) (oa : Option Addr) (n oc : Nat) (wr : World) (iv : Value) (T : σ) (F : Nat → Prop) (ids : List Int) : Prop where
  cg : Cg F0 w0 wr
  sz : w0.heap.size + 3 ≤ wr.heap.size
  st : P wr T F
  nF : ∀ k, F k → (F0 k ∧ k < w0.heap.size) ∨ w0.heap.size + 3 ≤ k
  b3 : wr.cell? ⟨w0.heap.size, 3, none⟩ = some (.slice oa n oc)
  c4 : wr.cell? ⟨w0.heap.size + 1, 0, none⟩ = some iv
  z4 : wr.frozen? ⟨w0.heap.size + 1, 0, none⟩ = false
  c5 : wr.cell? ⟨w0.heap.size + 1 + 1, 0, none⟩ = some (.bool false)
  z5 : wr.frozen? ⟨w0.heap.size + 1 + 1, 0, none⟩ = false
  own : wr.ownsRow 0 3 1 iv ids.length (ints ids)
  of : ∀ k, iv.ownBlock = some k → ¬ F k ∧ w0.heap.size + 3 ≤ k
section
variable {σ : Type} {P : World → σ → (Nat → Prop) → Prop} {w0 wr w' w2 : World} {F0 F F' : Nat → Prop} {oa : Option Addr} {n oc : Nat} {iv iv' : Value} {T T' : σ} {ids : List Int}
theorem LdI.same (h : LdI P w0 F0 oa n oc wr iv T F ids) (hP : P w' T' F) (hc : Cg F0 w0 w') (e : ∀ k, k < wr.heap.size → ¬ F k → w'.heap[k]? = wr.heap[k]?) (hs : wr.heap.size ≤ w'.heap.size) : LdI P w0 F0 oa n oc w' iv T' F ids := by
  have hz := h.sz
  have o : ∀ j, j < 3 → w'.heap[w0.heap.size + j]? = wr.heap[w0.heap.size + j]? := fun j hj => e _ (by omega) (fun hF => by rcases h.nF _ hF with h1 | h1 <;> omega)
  exact ⟨hc, Nat.le_trans hz hs, hP, h.nF, (World.cell?_of_block (a := ⟨w0.heap.size, 3, none⟩) (o 0 (by omega))).trans h.b3, (World.cell?_of_block (a := ⟨w0.heap.size + 1, 0, none⟩) (o 1 (by omega))).trans h.c4, (World.frozen?_of_block (a := ⟨w0.heap.size + 1, 0, none⟩) (o 1 (by omega))).trans h.z4, (World.cell?_of_block (a := ⟨w0.heap.size + 1 + 1, 0, none⟩) (o 2 (by omega))).trans h.c5, (World.frozen?_of_block (a := ⟨w0.heap.size + 1 + 1, 0, none⟩) (o 2 (by omega))).trans h.z5, own_same h.own (fun k hk => e k (own_lt h.own k hk) (h.of k hk).1) hs, h.of⟩
/-- an identity more -/
theorem LdI.app (h : LdI P w0 F0 oa n oc wr iv T F ids) (hlF : ∀ k, F k → k < wr.heap.size) (hsm : ∀ w', wr.heap.size ≤ w'.heap.size → (∀ k, F k → w'.heap[k]? = wr.heap[k]?) → P w' T F) {id : Int} {o : Obj} (ho : w2.ownsRow 0 3 1 iv' (ids.length + 1) (ints ids ++ [.int .i64 id])) (hg : (wr.alloc o).grownBy w2 iv.ownBlock) (hv : iv'.ownBlock = iv.ownBlock ∨ iv'.ownBlock = some (wr.alloc o).heap.size) :
    LdI P w0 F0 oa n oc (w2.setCell ⟨w0.heap.size + 1, 0, none⟩ iv') iv' T F (ids ++ [id]) := by
  have hz := h.sz
  have hs1 : (wr.alloc o).heap.size = wr.heap.size + 1 := by simp
  have hsz : wr.heap.size ≤ w2.heap.size := by have := hg.size; omega
  have e2 : ∀ k, k < wr.heap.size → iv.ownBlock ≠ some k → w2.heap[k]? = wr.heap[k]? := fun k hk hne => (hg.block k (by omega) (fun e => hne e.symm)).trans (Below.heap_alloc _ _ _ hk)
  have es : ∀ k, k ≠ w0.heap.size + 1 → (w2.setCell ⟨w0.heap.size + 1, 0, none⟩ iv').heap[k]? = w2.heap[k]? := fun k hk => Below.heap_setCell _ _ _ _ hk
  have no : ∀ j, j < 3 → iv.ownBlock ≠ some (w0.heap.size + j) := fun j hj e => by have := (h.of _ e).2; omega
  have o' : ∀ j, j < 3 → w2.heap[w0.heap.size + j]? = wr.heap[w0.heap.size + j]? := fun j hj => e2 _ (by omega) (no j hj)
  have hnv : ∀ k, iv'.ownBlock = some k → ¬ F k ∧ w0.heap.size + 3 ≤ k := by
    intro k hk
    rcases hv with e | e
    · exact h.of k (by rw [← e]; exact hk)
    · rw [e] at hk
      have := Option.some.inj hk
      exact ⟨fun hF => by have := hlF k hF; omega, by omega⟩
  have hk : ∀ k, F k → (w2.setCell ⟨w0.heap.size + 1, 0, none⟩ iv').heap[k]? = wr.heap[k]? := fun k hF => by
    rw [es k (fun e => by rcases h.nF k hF with h1 | h1 <;> omega)]
    exact e2 k (hlF k hF) (fun e => (h.of k e).1 hF)
  refine ⟨⟨hg.os.trans h.cg.os, hg.tape.trans h.cg.tape, hg.output.trans h.cg.output, ?_, fun k hk hF => ?_⟩, ?_, hsm _ (by simpa [World.setCell] using hsz) hk, h.nF, ?_, ?_, ?_, ?_, ?_, ?_, hnv⟩
  · have : (w2.setCell ⟨w0.heap.size + 1, 0, none⟩ iv').heap.size = w2.heap.size := by simp [World.setCell]
    omega
  · rw [es k (by omega), e2 k (by omega) (fun e => by have := (h.of k e).2; omega)]
    exact h.cg.block k hk hF
  · have : (w2.setCell ⟨w0.heap.size + 1, 0, none⟩ iv').heap.size = w2.heap.size := by simp [World.setCell]
    omega
  · exact (World.cell?_of_block (a := ⟨w0.heap.size, 3, none⟩) ((es w0.heap.size (by omega)).trans (o' 0 (by omega)))).trans h.b3
  · exact World.cell?_setCell_same _ _ _ ((World.cell?_of_block (a := ⟨w0.heap.size + 1, 0, none⟩) (o' 1 (by omega))).trans h.c4)
  · rw [World.frozen?_setCell]; exact (World.frozen?_of_block (a := ⟨w0.heap.size + 1, 0, none⟩) (o' 1 (by omega))).trans h.z4
  · exact (World.cell?_of_block (a := ⟨w0.heap.size + 1 + 1, 0, none⟩) ((es (w0.heap.size + 1 + 1) (by omega)).trans (o' 2 (by omega)))).trans h.c5
  · rw [World.frozen?_setCell]; exact (World.frozen?_of_block (a := ⟨w0.heap.size + 1 + 1, 0, none⟩) (o' 2 (by omega))).trans h.z5
  · have : ints (ids ++ [id]) = ints ids ++ [.int .i64 id] := by simp [ints]
    rw [List.length_append, List.length_singleton, this]
    exact own_same ho (fun k hk => es k (by have := (hnv k hk).2; omega)) (by simp [World.setCell])
theorem LdI.cell (h : LdI P w0 F0 oa n oc wr iv T F ids) {o : Obj} (hg : (wr.alloc o).grownBy w2 iv.ownBlock) : w2.cell? ⟨w0.heap.size + 1, 0, none⟩ = some iv ∧ w2.frozen? ⟨w0.heap.size + 1, 0, none⟩ = false := by
  have hz := h.sz
  have hs1 : (wr.alloc o).heap.size = wr.heap.size + 1 := by simp
  have e : w2.heap[w0.heap.size + 1]? = wr.heap[w0.heap.size + 1]? := (hg.block _ (by omega) (fun e => by have := (h.of _ e.symm).2; omega)).trans (Below.heap_alloc _ _ _ (by omega))
  exact ⟨(World.cell?_of_block (a := ⟨w0.heap.size + 1, 0, none⟩) e).trans h.c4, (World.frozen?_of_block (a := ⟨w0.heap.size + 1, 0, none⟩) e).trans h.z4⟩
theorem LdI.begin {a : Obj} {w : World} {S : σ} (hP : P w S F0) (hlt : ∀ k, F0 k → k < w.heap.size) (hk : ∀ w', Below w.heap.size w w' → P w' S F0) {x0 x1 x2 x4 : Value} (hA : a = .cells #[x0, x1, x2, .slice oa n oc, x4] 32) :
    LdI P w F0 oa n oc (((w.alloc a).alloc (.cells #[.slice none 0 0] 34)).alloc (.cells #[.bool false] 4)) (.slice none 0 0) S F0 [] := by
  obtain ⟨y0, y1, y2, y3⟩ := box3 w a (.cells #[.slice none 0 0] 34) (.cells #[.bool false] 4)
  subst hA
  have hB : Below w.heap.size w (((w.alloc (.cells #[x0, x1, x2, .slice oa n oc, x4] 32)).alloc (.cells #[.slice none 0 0] 34)).alloc (.cells #[.bool false] 4)) := ((((Below.refl _ _).alloc (Nat.le_refl _) _).alloc (by simp) _).alloc (by simp; omega) _)
  exact ⟨Cg.below _ hB, by rw [y3]; exact Nat.le_refl _, hk _ hB, fun k e => Or.inl ⟨e, hlt k e⟩, by rw [Lib.cell_of_heap y0]; rfl, by rw [Lib.cell_of_heap y1]; rfl, froz_heap y1, by rw [Lib.cell_of_heap y2]; rfl, froz_heap y2, ⟨by simp [ints], Or.inl ⟨rfl, rfl⟩⟩, fun k e => by simp [Value.ownBlock] at e⟩
end
end Wd
end Go.Proofs.YteiejjmhmmkdhaaGreat

/- Load: a program's objects are made, then filled. -/
namespace Go.Proofs.YteiejjmhmmkdhaaGreat
open Go.RowKit
set_option linter.unusedVariables false
set_option maxRecDepth 20000
namespace Wd
section
variable {σ : Type} {M : Sto σ} {P : World → σ → (Nat → Prop) → Prop} {p : Nat} {sz : σ → Nat}
variable {w0 w1 wr w' w2 : World} {F0 F F' : Nat → Prop} {oa : Option Addr} {n oc : Nat} {iv iv' : Value} {T T' : σ} {ids : List Int}
end
end Wd
end Go.Proofs.YteiejjmhmmkdhaaGreat

/- The landed Ideal of a call's own: its calls in few words. -/
namespace Go.Proofs.YteiejjmhmmkdhaaGreat
open Go.RowKit
set_option linter.unusedVariables false
set_option maxRecDepth 20000
namespace Wd
/-- at block p the landed Ideal keeps L; it lies in the blocks F -/
def IA (p : Nat) (w : World) (L : List Ob8) (F : Nat → Prop) : Prop := ∃ v xs B, ID w p v xs B L ∧ F = unD p v B L.length
theorem IA.lt {p : Nat} {w : World} {L : List Ob8} {F : Nat → Prop} (h : IA p w L F) : ∀ k, F k → k < w.heap.size := by
  obtain ⟨v, xs, B, h, rfl⟩ := h
  exact h.lt
theorem IA.same {p : Nat} {w w' : World} {L : List Ob8} {F : Nat → Prop} (h : IA p w L F) (hs : w.heap.size ≤ w'.heap.size) (e : ∀ k, F k → w'.heap[k]? = w.heap[k]?) : IA p w' L F := by
  obtain ⟨v, xs, B, h, rfl⟩ := h
  exact ⟨v, xs, B, h.same hs e, rfl⟩
theorem alL_len (L : List Ob8) (c n : Int) : (alL L c n).length ≤ L.length + 1 := by unfold alL; split <;> simp
theorem ia_alloc {p : Nat} {w : World} {L : List Ob8} {F : Nat → Prop} (c n : Int) (h : IA p w L F) (hl : L.length ≤ 10000) (hc : b64 c) (hn : b64 n) : Calls Tryz.prog 17 #[pV p, .int .i64 c, .int .i64 n] w fun e w' => e = .returned (.int .i64 (alI L c n)) ∧ ∃ F', IA p w' (alL L c n) F' ∧ Cg F w w' ∧ ∀ k, F' k → F k ∨ w.heap.size ≤ k := by
  obtain ⟨v, xs, B, h, rfl⟩ := h
  refine (ialloc_c h c n hc hn hl).mono ?_
  rintro e w' ⟨rfl, v', xs', B', h1, h2, h3⟩
  exact ⟨rfl, _, ⟨v', xs', B', h1, rfl⟩, h2, h3⟩
theorem ia_put {p : Nat} {w : World} {L : List Ob8} {F : Nat → Prop} (id i x : Int) (h : IA p w L F) (hl : L.length ≤ 10000) (hi : b64 id) (hj : b64 i) (hx : b32 x) : Calls Tryz.prog 13 #[pV p, .int .i64 id, .int .i64 i, .int .u32 x] w fun e w' => e = .returned (.bool (puB L id i x)) ∧ IA p w' (puL L id i x) F ∧ Cg F w w' := by
  obtain ⟨v, xs, B, h, rfl⟩ := h
  refine (iput_c h id i x hi hj hx (by omega)).mono ?_
  rintro e w' ⟨rfl, h1, h2⟩
  exact ⟨rfl, ⟨v, xs, B, h1, by rw [puL_len]⟩, h2⟩
/-- a landed Ideal that lies in blocks newer than w0 -/
def IS (w0 wr : World) (p : Nat) (L : List Ob8) : Prop := ∃ F, IA p wr L F ∧ Below w0.heap.size w0 wr ∧ ∀ k, F k → w0.heap.size ≤ k
section
variable {w0 w w' : World} {p : Nat} {L : List Ob8}
theorem IS.bel (h : IS w0 w p L) : Below w0.heap.size w0 w := h.choose_spec.2.1
theorem IS.up (h : IS w0 w p L) (b : Below w.heap.size w w') : IS w0 w' p L := by
  obtain ⟨F, h1, h2, h3⟩ := h
  exact ⟨F, h1.same b.size (fun k hk => b.block k (h1.lt k hk)), h2.trans (b.mono h2.size), h3⟩
theorem is_new (hb : Below w0.heap.size w0 w) : Calls Tryz.prog 12 #[] w fun e w' => ∃ p, e = .returned (pV p) ∧ IS w0 w' p [] ∧ Below w.heap.size w w' := by
  refine (inew_c w).mono ?_
  rintro e w' ⟨p, rfl, h1, h2, h3⟩
  refine ⟨p, rfl, ⟨_, ⟨_, _, _, h1, rfl⟩, hb.trans (h3.mono hb.size), ?_⟩, h3⟩
  rintro k (rfl | hk | ⟨j, hj, _⟩)
  · exact Nat.le_trans hb.size h2
  · cases hk
  · simp at hj
theorem is_alloc (h : IS w0 w p L) (c n : Int) (hl : L.length ≤ 10000) (hc : b64 c) (hn : b64 n) : Calls Tryz.prog 17 #[pV p, .int .i64 c, .int .i64 n] w fun e w' => e = .returned (.int .i64 (alI L c n)) ∧ IS w0 w' p (alL L c n) := by
  obtain ⟨F, h1, h2, h3⟩ := h
  refine (ia_alloc c n h1 hl hc hn).mono ?_
  rintro e w' ⟨rfl, F', g1, g2, g3⟩
  exact ⟨rfl, F', g1, h2.trans (g2.toB h2.size h3), fun k hk => (g3 k hk).elim (h3 k) (fun e => Nat.le_trans h2.size e)⟩
theorem is_put (h : IS w0 w p L) (id i x : Int) (hl : L.length ≤ 10000) (hi : b64 id) (hj : b64 i) (hx : b32 x) : Calls Tryz.prog 13 #[pV p, .int .i64 id, .int .i64 i, .int .u32 x] w fun e w' => e = .returned (.bool (puB L id i x)) ∧ IS w0 w' p (puL L id i x) := by
  obtain ⟨F, h1, h2, h3⟩ := h
  refine (ia_put id i x h1 hl hi hj hx).mono ?_
  rintro e w' ⟨rfl, g1, g2⟩
  exact ⟨rfl, F, g1, h2.trans (g2.toB h2.size h3), h3⟩
theorem is_get (h : IS w0 w p L) (id i : Int) (hl : L.length ≤ 10000) (hi : b64 id) (hj : b64 i) : Calls Tryz.prog 33 #[pV p, .int .i64 id, .int .i64 i] w fun e w' => e = .returned (.tuple #[.int .u32 (gvL L id i), .bool (inO L id i)]) ∧ IS w0 w' p L ∧ Below w.heap.size w w' := by
  have h0 := h
  obtain ⟨F, ⟨v, xs, B, h1, rfl⟩, h2, h3⟩ := h
  refine (iget_c h1 id i hi hj (by omega)).mono ?_
  rintro e w' ⟨rfl, g⟩
  exact ⟨rfl, h0.up g, g⟩
theorem is_cls (h : IS w0 w p L) (id : Int) (hl : L.length ≤ 10000) (hi : b64 id) : Calls Tryz.prog 34 #[pV p, .int .i64 id] w fun e w' => e = .returned (.int .i64 (clsL L id)) ∧ IS w0 w' p L ∧ Below w.heap.size w w' := by
  have h0 := h
  obtain ⟨F, ⟨v, xs, B, h1, rfl⟩, h2, h3⟩ := h
  refine (icls_c h1 id hi (by omega)).mono ?_
  rintro e w' ⟨rfl, g⟩
  exact ⟨rfl, h0.up g, g⟩
theorem is_fld (h : IS w0 w p L) (id : Int) (hl : L.length ≤ 10000) (hi : b64 id) : Calls Tryz.prog 35 #[pV p, .int .i64 id] w fun e w' => e = .returned (.int .i64 (fldL L id)) ∧ IS w0 w' p L ∧ Below w.heap.size w w' := by
  have h0 := h
  obtain ⟨F, ⟨v, xs, B, h1, rfl⟩, h2, h3⟩ := h
  refine (ifld_c h1 id hi (by omega)).mono ?_
  rintro e w' ⟨rfl, g⟩
  exact ⟨rfl, h0.up g, g⟩
theorem is_len (h : IS w0 w p L) : Calls Tryz.prog 36 #[pV p] w fun e w' => e = .returned (.int .i64 (L.length : Int)) ∧ w' = w := by
  obtain ⟨F, ⟨v, xs, B, h1, rfl⟩, h2, h3⟩ := h
  exact ilen_c h1
end
def zU : UnitA := ⟨[], [], [], [], 0⟩
theorem zU_right : unitR zU = 3 := by decide +kernel
theorem zU_k (w : World) : UnK w (.agg #[.slice none 0 0, .slice none 0 0, .slice none 0 0, .slice none 0 0, .int .i64 0]) zU :=
  ⟨⟨none, 0, none, 0, none, 0, none, 0, rfl, ⟨⟨none, 0, rfl, by decide, by decide, fun k x h => by simp [zU] at h⟩, ⟨none, 0, rfl, by decide, by decide, fun k x h => by simp [zU] at h⟩, ⟨none, 0, rfl, by decide, by decide, fun k x h => by simp [zU] at h⟩, ⟨none, 0, rfl, by decide, by decide, fun k x h => by simp [zU] at h⟩⟩⟩⟩
end Wd
end Go.Proofs.YteiejjmhmmkdhaaGreat

/- Turning a program: a row inside it that grows. -/
namespace Go.Proofs.YteiejjmhmmkdhaaGreat
open Go.RowKit
set_option linter.unusedVariables false
set_option maxRecDepth 20000
namespace Wd
section
variable {w0 W w4 : World} {b : Nat} {N : List ByteArray} {T : List (ClassA × Value)} {M : List (MethA × Value × Value)} {O : List (ObjA × Value)} {nv cv mv ov v4 : Value} {main : Int}
theorem OU.bind {g n cp k : Nat} {cx : ClassA} {bv : Value} {p : Int × Int} (h : OU w0 W (fun _ => False) b N T M O nv (.slice (some ⟨g, 0, none⟩) n cp) mv ov main) (hn : T.length = n) (hx : T[k]? = some (cx, bv)) (hb4 : (cx.binds ++ [p]).length ≤ b + 50) (B4 : Below W.heap.size W w4) (na4 : ∀ k, v4.ownBlock = some k → W.heap.size ≤ k) (hp : PrV w4 v4 (cx.binds ++ [p])) : w4.cell? ⟨g, k * 4 + 3, none⟩ = some bv ∧ w4.frozen? ⟨g, k * 4 + 3, none⟩ = false ∧ OUf w0 (w4.setCell ⟨g, k * 4 + 3, none⟩ v4) (b + 50) := by
  have hk := (List.getElem?_eq_some_iff.1 hx).1
  have h1 := (h.more (b' := b + 50) (I' := fun q => v4.ownBlock = some q) (by omega) (fun q e => e.elim) (fun q e => Or.inr (na4 q e))).up B4
  have ho := h1.oc
  rw [hn] at ho
  have hget := cl4s_get T k _ hx
  have hup := cl4s_set T k _ (cx.binds ++ [p]) v4 hx
  simp only at hget hup
  obtain ⟨s0, f0, nb, pb⟩ := h1.ic _ (List.mem_of_getElem? hx)
  simp only at s0 f0 nb pb
  refine ⟨(ho.cellAt (k * 4 + 3) (by omega)).trans hget.2.2.2, ho.frozenAt (k * 4 + 3), ?_⟩
  exact (h1.cls (k := k) (j := 3) (y := (⟨cx.nm, cx.super, cx.fields, cx.binds ++ [p]⟩, v4)) (u := v4) hn hup ⟨s0, f0, hb4, StP.new hp (fun q e => e)⟩ (h1.cs (cx, bv) (List.mem_of_getElem? hx))).fin (Nat.le_refl _)
end
end Wd
end Go.Proofs.YteiejjmhmmkdhaaGreat

/- A tape's program, by value. -/
namespace Go.Proofs.YteiejjmhmmkdhaaGreat
open Go.RowKit
set_option linter.unusedVariables false
set_option maxRecDepth 20000
namespace Wd
theorem UnV.k {w : World} {nv cv mv ov : Value} {U : UnitA} (h : UnV w nv cv mv ov U) (hm : U.main = 6) : UnK w (.agg #[nv, cv, mv, ov, .int .i64 6]) U := by
  obtain ⟨na, nc, rfl, _⟩ := h.n.ex
  obtain ⟨ca, cc, rfl, _⟩ := h.c.ex
  obtain ⟨ma, mc, rfl, _⟩ := h.m.ex
  obtain ⟨oa, oc, rfl, _⟩ := h.o.ex
  exact ⟨⟨na, nc, ca, cc, ma, mc, oa, oc, by rw [hm], h⟩⟩
theorem MeV.of {w : World} {la ca : Option Addr} {nl lc nb cc : Nat} {a t : Int} {L : List (Int × Int)} {C : List Int} (hl : PrV w (.slice la nl lc) L) (hc : ByV w (.slice ca nb cc) C) (ha : In64 a) (ht : In64 t) : MeV w (.agg #[.int .i64 a, .int .i64 t, .slice la nl lc, .slice ca nb cc]) ⟨a, t, L, C⟩ := by
  obtain ⟨_, _, e, _⟩ := hl.ex
  obtain ⟨_, _, e2, _⟩ := hc.ex
  cases e; cases e2
  exact ⟨⟨la, lc, ca, cc, rfl, hl, hc⟩, ha, ht⟩
/-- numbers that came in -/
def NumA (w : World) (ad : Option Addr) (n : Nat) : Prop := ∀ k, k < n → ∃ (g off : Nat) (x : Int), ad = some ⟨g, off, none⟩ ∧ (-9223372036854775808 ≤ x ∧ x ≤ 9223372036854775807) ∧ w.cell? ⟨g, off + k, none⟩ = some (.int .i64 x)
theorem NumA.up {w w1 : World} {ad : Option Addr} {n : Nat} (h : NumA w ad n) (b : Below w.heap.size w w1) : NumA w1 ad n := fun k hk => by
  obtain ⟨g, off, x, e, h1, h2⟩ := h k hk
  exact ⟨g, off, x, e, h1, cell_up b h2⟩
theorem tape_tp {w : World} {ad : Option Addr} {n cap : Nat} (h : NumA w ad n) (hn : n ≤ 4611686018427387904) : Tp (w.alloc (.cells #[.slice ad n cap, .int .i64 0] 37)) w.heap.size ad n := by
  refine ⟨⟨cap, by simp⟩, ⟨0, by omega, by simp⟩, World.frozen?_alloc_new _ _ _ _, fun k hk => ?_, hn⟩
  obtain ⟨g, off, x, e, b, c⟩ := h k hk
  have hg := World.block_lt_of_cell? w _ c
  exact ⟨g, off, x, e, by simp only at hg; omega, b, (World.cell?_alloc_old _ _ _ (Nat.ne_of_lt hg)).trans c⟩
theorem unit_bel {w w' : World} {c : Obj} (h : Cg (fun k => k = w.heap.size) (w.alloc c) w') : Below w.heap.size w w' :=
  ⟨h.os, h.tape, h.output, by have := h.size; simp at this; omega, fun k hk => (h.block k (by simp; omega) (by omega)).trans (Below.heap_alloc _ _ _ hk)⟩
/-- a tape's program, with the rows of its methods: it lies in blocks from s on -/
structure UnT (s : Nat) (w : World) (v : Value) (U : UnitA) (g cap : Nat) (M : List (MethA × Value × Value)) : Prop where
  ex : ∃ na nc ca cc oa oc, v = .agg #[.slice na U.names.length nc, .slice ca U.classes.length cc, .slice (some ⟨g, 0, none⟩) U.methods.length cap, .slice oa U.objects.length oc, .int .i64 U.main]
  un : ∀ (G : Nat → Prop) (w2 : World), Cg G w w2 → (∀ k, G k → k < s) → UnK w2 v U
  mm : M.map (·.1) = U.methods
  ms : ∀ (G : Nat → Prop) (w2 : World), Cg G w w2 → (∀ k, G k → k < s) → ∀ (k : Nat) x, M[k]? = some x → w2.cell? ⟨g, k * 4, none⟩ = some (.int .i64 x.1.args) ∧ w2.cell? ⟨g, k * 4 + 1, none⟩ = some (.int .i64 x.1.temps) ∧ w2.cell? ⟨g, k * 4 + 2, none⟩ = some x.2.1 ∧ w2.cell? ⟨g, k * 4 + 3, none⟩ = some x.2.2 ∧ In64 x.1.args ∧ In64 x.1.temps ∧ PrV w2 x.2.1 x.1.lits ∧ ByV w2 x.2.2 x.1.code
  ta : TapeU U
theorem UnT.cg {s : Nat} {w w1 : World} {v : Value} {U : UnitA} {g cap : Nat} {M : List (MethA × Value × Value)} (h : UnT s w v U g cap M) {F : Nat → Prop} (c : Cg F w w1) (hF : ∀ k, F k → k < s) : UnT s w1 v U g cap M :=
  ⟨h.ex, fun G w2 hG hl => h.un (fun k => F k ∨ G k) w2 ((c.mono (fun k hk => Or.inl hk)).trans (hG.mono (fun k hk => Or.inr hk))) (fun k hk => hk.elim (hF k) (hl k)), h.mm,
    fun G w2 hG hl => h.ms (fun k => F k ∨ G k) w2 ((c.mono (fun k hk => Or.inl hk)).trans (hG.mono (fun k hk => Or.inr hk))) (fun k hk => hk.elim (hF k) (hl k)), h.ta⟩
theorem UnT.up {s : Nat} {w w1 : World} {v : Value} {U : UnitA} {g cap : Nat} {M : List (MethA × Value × Value)} (h : UnT s w v U g cap M) (b : Below w.heap.size w w1) : UnT s w1 v U g cap M := h.cg (Cg.below (fun _ => False) b) (fun _ e => e.elim)
theorem UnT.k {s : Nat} {w : World} {v : Value} {U : UnitA} {g cap : Nat} {M : List (MethA × Value × Value)} (h : UnT s w v U g cap M) : UnK w v U := h.un (fun _ => False) w (Cg.refl _ _) (fun _ e => e.elim)
theorem UnT.m {s : Nat} {w : World} {v : Value} {U : UnitA} {g cap : Nat} {M : List (MethA × Value × Value)} (h : UnT s w v U g cap M) {k : Nat} {x : MethA × Value × Value} (hx : M[k]? = some x) : w.cell? ⟨g, k * 4, none⟩ = some (.int .i64 x.1.args) ∧ w.cell? ⟨g, k * 4 + 1, none⟩ = some (.int .i64 x.1.temps) ∧ w.cell? ⟨g, k * 4 + 2, none⟩ = some x.2.1 ∧ w.cell? ⟨g, k * 4 + 3, none⟩ = some x.2.2 ∧ In64 x.1.args ∧ In64 x.1.temps ∧ PrV w x.2.1 x.1.lits ∧ ByV w x.2.2 x.1.code := h.ms (fun _ => False) w (Cg.refl _ _) (fun _ e => e.elim) k x hx
/-- a method of it, by value -/
theorem UnT.me {s : Nat} {w : World} {v : Value} {U : UnitA} {g cap : Nat} {M : List (MethA × Value × Value)} (h : UnT s w v U g cap M) {k : Nat} {x : MethA × Value × Value} (hx : M[k]? = some x) : MeV w (.agg #[.int .i64 x.1.args, .int .i64 x.1.temps, x.2.1, x.2.2]) x.1 := by
  obtain ⟨_, _, _, _, i1, i2, hl, hc⟩ := h.m hx
  obtain ⟨la, lc, e1, _⟩ := hl.form
  obtain ⟨ca, cc, e2, _⟩ := hc.form
  rw [e1] at hl ⊢
  rw [e2] at hc ⊢
  exact MeV.of hl hc i1 i2
theorem UnT.ml {s : Nat} {w : World} {v : Value} {U : UnitA} {g cap : Nat} {M : List (MethA × Value × Value)} (h : UnT s w v U g cap M) : M.length = 9 ∧ U.methods.length = 9 := by
  have := h.ta.ml
  rw [← h.mm] at this
  exact ⟨by simpa using this, h.ta.ml⟩
set_option maxHeartbeats 4000000 in
theorem unit_t {w : World} {p n : Nat} {ad : Option Addr} (h : Tp w p ad n) :
    Calls Tryz.prog 9 #[.pointer (some ⟨p, 0, none⟩)] w fun e w' => ∃ v U g cap M, e = .returned v ∧ UnT (w.heap.size + 1) w' v U g cap M ∧ Cg (fun k => k = p) w w' := by
  refine (unit_c h).mono ?_
  rintro e w' ⟨nv, cv, mv, ov, rfl, U, hU, hT, _, hcg, M, hM, hF⟩
  obtain ⟨_, g, cap, e, _⟩ := hF (fun _ => False) w' (Cg.refl _ _) (fun _ e => e.elim)
  subst e
  refine ⟨_, U, g, cap, M, rfl, ⟨?_, fun G w2 hG hl => (hF G w2 hG hl).1.k hT.main, hM, fun G w2 hG hl k x hx => ?_, hT⟩, hcg⟩
  · obtain ⟨na, nc, rfl, _⟩ := hU.n.ex
    obtain ⟨ca, cc, rfl, _⟩ := hU.c.ex
    obtain ⟨oa, oc, rfl, _⟩ := hU.o.ex
    exact ⟨na, nc, ca, cc, oa, oc, by rw [hT.main]⟩
  · obtain ⟨_, g', cap', e', hcl⟩ := hF G w2 hG hl
    cases e'
    exact hcl k x hx
end Wd
end Go.Proofs.YteiejjmhmmkdhaaGreat

/- The chapter's runs. -/
namespace Go.Proofs.YteiejjmhmmkdhaaGreat
open Go.RowKit
set_option linter.unusedVariables false
set_option maxRecDepth 20000
namespace Wd
def kL1 : List Ob8 := [(2, [2, 2, 2])]
def kL2 : List Ob8 := [(2, [2, 2, 9])]
section
variable {w0 w w' : World} {p : Nat}
theorem kn_a1 (h : IS w0 w p []) : Calls Tryz.prog 17 #[pV p, .int .i64 2, .int .i64 3] w fun e w' => e = .returned (.int .i64 4) ∧ IS w0 w' p kL1 := by
  have := is_alloc h 2 3 (by decide) ⟨by decide, by decide⟩ ⟨by decide, by decide⟩
  rwa [show alI [] 2 3 = 4 by decide, show alL [] 2 3 = kL1 by decide] at this
theorem kn_p1 (h : IS w0 w p kL1) : Calls Tryz.prog 13 #[pV p, .int .i64 4, .int .i64 2, .int .u32 9] w fun e w' => e = .returned (.bool true) ∧ IS w0 w' p kL2 := by
  have := is_put h 4 2 9 (by decide) ⟨by decide, by decide⟩ ⟨by decide, by decide⟩ ⟨by decide, by decide⟩
  rwa [show puB kL1 4 2 9 = true by decide, show puL kL1 4 2 9 = kL2 by decide] at this
theorem kn_g1 (h : IS w0 w p kL2) : Calls Tryz.prog 33 #[pV p, .int .i64 4, .int .i64 2] w fun e w' => e = .returned (.tuple #[.int .u32 9, .bool true]) ∧ IS w0 w' p kL2 := by
  have := is_get h 4 2 (by decide) ⟨by decide, by decide⟩ ⟨by decide, by decide⟩
  rw [show gvL kL2 4 2 = 9 by decide, show inO kL2 4 2 = true by decide] at this
  exact this.mono (by rintro e w' ⟨h1, h2, _⟩; exact ⟨h1, h2⟩)
theorem kn_g2 (h : IS w0 w p kL2) : Calls Tryz.prog 33 #[pV p, .int .i64 5, .int .i64 0] w fun e w' => e = .returned (.tuple #[.int .u32 0, .bool false]) ∧ IS w0 w' p kL2 := by
  have := is_get h 5 0 (by decide) ⟨by decide, by decide⟩ ⟨by decide, by decide⟩
  rw [show gvL kL2 5 0 = 0 by decide, show inO kL2 5 0 = false by decide] at this
  exact this.mono (by rintro e w' ⟨h1, h2, _⟩; exact ⟨h1, h2⟩)
theorem kn_c1 (h : IS w0 w p kL2) : Calls Tryz.prog 34 #[pV p, .int .i64 4] w fun e w' => e = .returned (.int .i64 2) ∧ IS w0 w' p kL2 := by
  have := is_cls h 4 (by decide) ⟨by decide, by decide⟩
  rw [show clsL kL2 4 = 2 by decide] at this
  exact this.mono (by rintro e w' ⟨h1, h2, _⟩; exact ⟨h1, h2⟩)
theorem kn_c2 (h : IS w0 w p kL2) : Calls Tryz.prog 34 #[pV p, .int .i64 5] w fun e w' => e = .returned (.int .i64 (-1)) ∧ IS w0 w' p kL2 := by
  have := is_cls h 5 (by decide) ⟨by decide, by decide⟩
  rw [show clsL kL2 5 = -1 by decide] at this
  exact this.mono (by rintro e w' ⟨h1, h2, _⟩; exact ⟨h1, h2⟩)
theorem kn_f1 (h : IS w0 w p kL2) : Calls Tryz.prog 35 #[pV p, .int .i64 4] w fun e w' => e = .returned (.int .i64 3) ∧ IS w0 w' p kL2 := by
  have := is_fld h 4 (by decide) ⟨by decide, by decide⟩
  rw [show fldL kL2 4 = 3 by decide] at this
  exact this.mono (by rintro e w' ⟨h1, h2, _⟩; exact ⟨h1, h2⟩)
theorem kn_a2 (h : IS w0 w p kL2) : Calls Tryz.prog 17 #[pV p, .int .i64 4096, .int .i64 1] w fun e w' => e = .returned (.int .i64 (-1)) ∧ IS w0 w' p kL2 := by
  have := is_alloc h 4096 1 (by decide) ⟨by decide, by decide⟩ ⟨by decide, by decide⟩
  rwa [show alI kL2 4096 1 = -1 by decide, show alL kL2 4096 1 = kL2 by decide] at this
theorem kn_a3 (h : IS w0 w p kL2) : Calls Tryz.prog 17 #[pV p, .int .i64 1, .int .i64 63] w fun e w' => e = .returned (.int .i64 (-1)) ∧ IS w0 w' p kL2 := by
  have := is_alloc h 1 63 (by decide) ⟨by decide, by decide⟩ ⟨by decide, by decide⟩
  rwa [show alI kL2 1 63 = -1 by decide, show alL kL2 1 63 = kL2 by decide] at this
theorem kn_p2 (h : IS w0 w p kL2) : Calls Tryz.prog 13 #[pV p, .int .i64 4, .int .i64 0, .int .u32 0] w fun e w' => e = .returned (.bool false) ∧ IS w0 w' p kL2 := by
  have := is_put h 4 0 0 (by decide) ⟨by decide, by decide⟩ ⟨by decide, by decide⟩ ⟨by decide, by decide⟩
  rwa [show puB kL2 4 0 0 = false by decide, show puL kL2 4 0 0 = kL2 by decide] at this
theorem kn_l1 (h : IS w0 w p kL2) : Calls Tryz.prog 36 #[pV p] w fun e w' => e = .returned (.int .i64 1) ∧ IS w0 w' p kL2 :=
  (is_len h).mono (by rintro e w' ⟨h1, rfl⟩; exact ⟨h1, h⟩)
theorem kn_z (h : IS w0 w p kL2) : Calls Tryz.prog 20 #[.iface 42 (pV p), .agg #[.slice none 0 0, .slice none 0 0, .slice none 0 0, .slice none 0 0, .int .i64 0]] w fun e w' => e = .returned (.tuple #[.slice none 0 0, .bool false]) ∧ IS w0 w' p kL2 :=
  (load_bad (zU_k w) (by rw [zU_right]; decide) _ _).mono (by rintro e w' ⟨h1, h2⟩; exact ⟨h1, h.up h2⟩)
theorem kn_u (h : IS w0 w p kL2) : Calls Tryz.prog 9 #[.pointer (some ⟨w.heap.size, 0, none⟩)] (w.alloc (.cells #[.slice none 0 0, .int .i64 0] 37)) fun e w' => ∃ v U, e = .returned v ∧ UnK w' v U ∧ IS w0 w' p kL2 := by
  refine (unit_t (tape_tp (ad := none) (n := 0) (cap := 0) (fun k hk => by omega) (by omega))).mono ?_
  rintro e w' ⟨v, U, g, cap, M, rfl, hU, hc⟩
  exact ⟨v, U, rfl, hU.k, h.up (unit_bel hc)⟩
theorem kn_n {v : Value} {U : UnitA} (hu : UnK w v U) (h : IS w0 w p kL2) : Calls Tryz.prog 20 #[.nilIface, v] w fun e w' => e = .returned (.tuple #[.slice none 0 0, .bool false]) ∧ IS w0 w' p kL2 :=
  (load_nil hu).mono (by rintro e w' ⟨h1, h2⟩; exact ⟨h1, h.up h2⟩)
end
theorem builtUn8 : Tryz.prog.built 32 [] = some #[.slice none 0 0, .slice none 0 0, .slice none 0 0, .slice none 0 0, .int .i64 0] := by kernel_rfl
theorem builtTp8 : Tryz.prog.built 37 [] = some #[.slice none 0 0, .int .i64 0] := by kernel_rfl
set_option maxHeartbeats 16000000 in
theorem known8_c (w : World) : Calls Tryz.prog 10 #[] w fun e w' => e = .returned (.bool true) ∧ Below w.heap.size w w' := by
  have hb1 := builtUn8
  have hb2 := builtTp8
  go_enter Tryz.func10, Tryz.ntmps10
  simp only [List.append_eq, List.cons_append, List.nil_append]
  go_upto_region 4 with (go_at_call 12; refine (is_new (Below.refl _ _)).mono ?_; rintro e w1 ⟨p, rfl, h1, _⟩; replace h1 := Lib.hid h1)
  go_upto_region 5 with (go_at_call 17; refine (kn_a1 h1.out).mono ?_; rintro e w2 ⟨rfl, h2⟩; replace h2 := Lib.hid h2)
  go_upto_region 6 with (go_at_call 13; refine (kn_p1 h2.out).mono ?_; rintro e w3 ⟨rfl, h3⟩; replace h3 := Lib.hid h3)
  clear h1 h2
  go_upto_region 7 with (go_at_call 33; refine (kn_g1 h3.out).mono ?_; rintro e w4 ⟨rfl, h4⟩; replace h4 := Lib.hid h4)
  go_upto_region 8 with (go_at_call 33; refine (kn_g2 h4.out).mono ?_; rintro e w5 ⟨rfl, h5⟩; replace h5 := Lib.hid h5)
  clear h3 h4
  go_upto_region 9 with (go_at_call 20; refine (kn_z h5.out).mono ?_; rintro e w6 ⟨rfl, h6⟩; replace h6 := Lib.hid h6)
  go_upto_region 10 with (first | (go_at_call 9; refine (kn_u h6.out).mono ?_; rintro e w7 ⟨v, U, rfl, hu, h7⟩; replace h7 := Lib.hid h7; replace hu := Lib.hid hu) | (go_at_call 20; refine (kn_n hu.out h7.out).mono ?_; rintro e w8 ⟨rfl, h8⟩; replace h8 := Lib.hid h8))
  clear h5 h6 h7 hu
  go_wp2_with (first | (go_at_call 34; with_reducible refine (kn_c1 h8.out).mono ?_; rintro e w9 ⟨rfl, h9⟩; replace h9 := Lib.hid h9) | (go_at_call 35; with_reducible refine (kn_f1 h9.out).mono ?_; rintro e w10 ⟨rfl, h10⟩; replace h10 := Lib.hid h10) | (go_at_call 34; with_reducible refine (kn_c2 h10.out).mono ?_; rintro e w11 ⟨rfl, h11⟩; replace h11 := Lib.hid h11) | (go_at_call 36; with_reducible refine (kn_l1 h11.out).mono ?_; rintro e w12 ⟨rfl, h12⟩; replace h12 := Lib.hid h12) | (go_at_call 17; with_reducible refine (kn_a2 h12.out).mono ?_; rintro e w13 ⟨rfl, h13⟩; replace h13 := Lib.hid h13) | (go_at_call 17; with_reducible refine (kn_a3 h13.out).mono ?_; rintro e w14 ⟨rfl, h14⟩; replace h14 := Lib.hid h14) | (go_at_call 13; with_reducible refine (kn_p2 h14.out).mono ?_; rintro e w15 ⟨rfl, h15⟩; replace h15 := Lib.hid h15))
  go_ret
  exact ⟨rfl, h15.out.bel⟩
end Wd
end Go.Proofs.YteiejjmhmmkdhaaGreat

/- Identities are told one by one; what is put stays. -/
namespace Go.Proofs.YteiejjmhmmkdhaaGreat
open Go.RowKit
set_option linter.unusedVariables false
set_option maxRecDepth 20000
namespace Wd
/-- asks that came in: kind, two numbers, a word -/
def AskV8 (w : World) (ad : Option Addr) (n : Nat) : Prop := ∀ k, k < n → ∃ (g off : Nat) (x y z u : Int), ad = some ⟨g, off, none⟩ ∧ b64 x ∧ b64 y ∧ b64 z ∧ b64 u ∧ w.cell? ⟨g, off + k * 4, none⟩ = some (.int .i64 x) ∧ w.cell? ⟨g, off + k * 4 + 1, none⟩ = some (.int .i64 y) ∧ w.cell? ⟨g, off + k * 4 + 2, none⟩ = some (.int .i64 z) ∧ w.cell? ⟨g, off + k * 4 + 3, none⟩ = some (.int .i64 u)
theorem AskV8.fn {w : World} {ad : Option Addr} {n : Nat} (h : AskV8 w ad n) : ∃ f : Nat → Int × Int × Int × Int, ∀ k, k < n → (b64 (f k).1 ∧ b64 (f k).2.1 ∧ b64 (f k).2.2.1 ∧ b64 (f k).2.2.2) ∧ ∃ g off, ad = some ⟨g, off, none⟩ ∧ w.cell? ⟨g, off + k * 4, none⟩ = some (.int .i64 (f k).1) ∧ w.cell? ⟨g, off + k * 4 + 1, none⟩ = some (.int .i64 (f k).2.1) ∧ w.cell? ⟨g, off + k * 4 + 2, none⟩ = some (.int .i64 (f k).2.2.1) ∧ w.cell? ⟨g, off + k * 4 + 3, none⟩ = some (.int .i64 (f k).2.2.2) := by
  have H : ∀ k, ∃ q : Int × Int × Int × Int, k < n → (b64 q.1 ∧ b64 q.2.1 ∧ b64 q.2.2.1 ∧ b64 q.2.2.2) ∧ ∃ g off, ad = some ⟨g, off, none⟩ ∧ w.cell? ⟨g, off + k * 4, none⟩ = some (.int .i64 q.1) ∧ w.cell? ⟨g, off + k * 4 + 1, none⟩ = some (.int .i64 q.2.1) ∧ w.cell? ⟨g, off + k * 4 + 2, none⟩ = some (.int .i64 q.2.2.1) ∧ w.cell? ⟨g, off + k * 4 + 3, none⟩ = some (.int .i64 q.2.2.2) := fun k => by
    by_cases hk : k < n
    · obtain ⟨g, off, x, y, z, u, e, b0, b1, b2, b3, c0, c1, c2, c3⟩ := h k hk
      exact ⟨(x, y, z, u), fun _ => ⟨⟨b0, b1, b2, b3⟩, g, off, e, c0, c1, c2, c3⟩⟩
    · exact ⟨(0, 0, 0, 0), fun e => absurd e hk⟩
  obtain ⟨f, hf⟩ := Classical.axiomOfChoice H
  exact ⟨f, hf⟩
def kc (y : Int) : Int := bits .and .i64 y 15
def kv (u : Int) : Int := bits .or .u32 (u % 4294967296) 1
end Wd
end Go.Proofs.YteiejjmhmmkdhaaGreat

/- The shell: what came in, as the form reads it, opened: a slice of asks. -/
namespace Go.Proofs.YteiejjmhmmkdhaaGreat
open Go.ChangeShapes Go.WideShapes Go.ChangeAt Go.RowKit
set_option linter.unusedVariables false
set_option maxRecDepth 100000
namespace Wd
theorem laidOut : laidOutB Tryz.prog = true := by kernel_rfl
theorem cellsI9 : Tryz.prog.cellsOf 3 = 1 := by kernel_rfl
theorem cellsA9 : Tryz.prog.cellsOf 24 = 4 := by kernel_rfl
theorem bytesAsk : Tryz.prog.bytesOf 24 = 32 := by kernel_rfl
theorem list4 {α : Type} (l : List α) (h : l.length = 4) : ∃ a b c d, l = [a, b, c, d] := by
  match l, h with
  | [a, b, c, d], _ => exact ⟨a, b, c, d, rfl⟩
variable {H : Type} {enc : TypeId × Value → H} {W : World}
theorem asks_raw {n : Nat} {c : Value} {y : DataW H × List MemPlace} (h : DataW.trod enc Tryz.prog W 0 (fun _ => true) true n 22 [c] = some y) : ∃ ad len cap, c = .slice ad len cap ∧ AskV8 W ad len := by
  rcases DataW.trod_slice Tryz.underlying22 h with ⟨hcs, hx⟩ | ⟨a, len, cap, elems, rest, m, _, hcs, hx, hb, hl, hm, hlen, hel, _, _⟩
  · simp at hcs
    exact ⟨none, 0, 0, hcs, fun k hk => absurd hk (by omega)⟩
  · simp at hcs
    have hsp : 0 < len → a.spot = none := fun h0 => by
      obtain ⟨z, hz⟩ : ∃ z, elems[0]? = some z := ⟨elems[0]'(by omega), by simp⟩
      have hk1 := hel 0 h0
      rw [hz, cellsA9, Option.bind_eq_some_iff] at hk1
      obtain ⟨cs, hc, ht⟩ := hk1
      obtain ⟨_, hcl, hcc⟩ := World.cells?_some hc
      obtain ⟨c0, c1, c2, c3, rfl⟩ := list4 cs hcl
      have hs := World.cell?_spot ((hcc 0 (by omega)).trans (show [c0, c1, c2, c3][0]? = some c0 from rfl))
      simpa [Addr.add] using hs
    refine ⟨some a, len, cap, hcs, fun k hk => ?_⟩
    obtain ⟨z, hz⟩ : ∃ z, elems[k]? = some z := ⟨elems[k]'(by omega), by simp⟩
    have hk1 := hel k hk
    rw [hz, cellsA9, Option.bind_eq_some_iff] at hk1
    obtain ⟨cs, hc, ht⟩ := hk1
    obtain ⟨_, hcl, hcc⟩ := World.cells?_some hc
    obtain ⟨xs, n', _, _, _, hxl, hg⟩ := DataW.trod_struct Tryz.underlying24 ht
    obtain ⟨y0, y1, y2, y3, rfl⟩ := list4 xs hxl
    obtain ⟨c0, c1, c2, c3, rfl⟩ := list4 cs hcl
    have g0 : DataW.trod enc Tryz.prog W 0 (fun _ => true) true n' 3 (([c0, c1, c2, c3].drop 0).take (Tryz.prog.cellsOf 3)) = some y0 := hg 0 _ rfl
    have g1 : DataW.trod enc Tryz.prog W 0 (fun _ => true) true n' 3 (([c0, c1, c2, c3].drop 1).take (Tryz.prog.cellsOf 3)) = some y1 := hg 1 _ rfl
    have g2 : DataW.trod enc Tryz.prog W 0 (fun _ => true) true n' 3 (([c0, c1, c2, c3].drop 2).take (Tryz.prog.cellsOf 3)) = some y2 := hg 2 _ rfl
    have g3 : DataW.trod enc Tryz.prog W 0 (fun _ => true) true n' 3 (([c0, c1, c2, c3].drop 3).take (Tryz.prog.cellsOf 3)) = some y3 := hg 3 _ rfl
    rw [cellsI9] at g0 g1 g2 g3
    obtain ⟨x, e0, _, w0⟩ := DataW.trod_int Tryz.underlying3 g0
    obtain ⟨q, e1, _, w1⟩ := DataW.trod_int Tryz.underlying3 g1
    obtain ⟨r, e2, _, w2⟩ := DataW.trod_int Tryz.underlying3 g2
    obtain ⟨s, e3, _, w3⟩ := DataW.trod_int Tryz.underlying3 g3
    simp at e0 e1 e2 e3
    subst e0 e1 e2 e3
    have h0 := hcc 0 (by omega)
    have h1 := hcc 1 (by omega)
    have h2 := hcc 2 (by omega)
    have h3 := hcc 3 (by omega)
    obtain ⟨b, off, spot⟩ := a
    have hspot : spot = none := hsp (by omega)
    subst hspot
    simp only [Addr.add_lit, Nat.add_zero] at h0 h1 h2 h3
    exact ⟨b, off, x, q, r, s, rfl, bounds_i64 w0, bounds_i64 w1, bounds_i64 w2, bounds_i64 w3, h0, h1, h2, h3⟩
theorem asks_of {base : Nat} {v : Value} {d : DataW H} {p : List MemPlace} (hv : Value.okWide Tryz.prog W .any base 22 v) (h : DataW.Trod enc Tryz.prog W 0 (fun _ => true) true 22 v d p) : ∃ ad len cap, v = .slice ad len cap ∧ AskV8 W ad len ∧ ((d = .nil ∧ len = 0) ∨ ∃ elems spare, d = .slice elems spare ∧ len ≤ elems.length) := by
  obtain ⟨a0, len, cap, rfl⟩ := okWide_slice Tryz.underlying22 hv
  obtain ⟨fuel, hf⟩ := h
  obtain ⟨ad, len', cap', e, hN⟩ := asks_raw (c := .slice a0 len cap) (by simpa [Value.cells] using hf)
  cases e
  refine ⟨_, _, _, rfl, hN, ?_⟩
  rcases DataW.trod_slice Tryz.underlying22 hf with ⟨hcs, hx⟩ | ⟨a, len', cap', elems, rest, n, _, hcs, hx, hb, hl, hm, hlen, hel, _, _⟩
  · simp [Value.cells] at hcs
    obtain ⟨rfl, rfl, rfl⟩ := hcs
    simp only [Prod.mk.injEq] at hx
    exact Or.inl ⟨hx.1, rfl⟩
  · simp [Value.cells] at hcs
    obtain ⟨rfl, rfl, rfl⟩ := hcs
    simp only [Prod.mk.injEq] at hx
    exact Or.inr ⟨_, _, hx.1, by simp; omega⟩
end Wd
end Go.Proofs.YteiejjmhmmkdhaaGreat

/- The document's own Ideal: how it lies; what its reading calls answer; Put. -/
namespace Go.Proofs.YteiejjmhmmkdhaaGreat
open Go.RowKit
set_option linter.unusedVariables false
set_option maxRecDepth 20000
namespace Wd
def w32 (L : List Int) : List Value := L.map (Value.int .u32)
/-- at block b the document's Ideal: the rows v, us k the fields of the k-th object -/
structure RD (w : World) (b : Nat) (v : Value) (xs : List Value) (us : Nat → Value) (L : List Ob8) : Prop where
  c0 : w.cell? ⟨b, 0, none⟩ = some v
  z : w.frozen? ⟨b, 0, none⟩ = false
  row : w.ownsRow 0 89 2 v L.length xs
  at' : ∀ k x, L[k]? = some x → xs[k * 2]? = some (.int .i64 x.1) ∧ xs[k * 2 + 1]? = some (us k) ∧ w.ownsRow 0 49 1 (us k) x.2.length (w32 x.2) ∧ (0 ≤ x.1 ∧ x.1 ≤ 4095 ∧ x.2.length ≤ 62) ∧ ∀ y ∈ x.2, b32 y
  inj : ∀ j k q, j < L.length → k < L.length → (us j).ownBlock = some q → (us k).ownBlock = some q → j = k
  ap : ∀ k q, k < L.length → (us k).ownBlock = some q → q ≠ b ∧ v.ownBlock ≠ some q
  vb : v.ownBlock ≠ some b
def unR (b : Nat) (v : Value) (us : Nat → Value) (n : Nat) : Nat → Prop := fun k => k = b ∨ v.ownBlock = some k ∨ ∃ j, j < n ∧ (us j).ownBlock = some k
section
variable {w w' : World} {b : Nat} {v : Value} {xs : List Value} {us : Nat → Value} {L : List Ob8}
theorem RD.lt (h : RD w b v xs us L) : ∀ k, unR b v us L.length k → k < w.heap.size := by
  rintro k (rfl | hk | ⟨j, hj, hk⟩)
  · exact World.block_lt_of_cell? w _ h.c0
  · exact own_lt h.row k hk
  · exact own_lt (h.at' j L[j] (by simp)).2.2.1 k hk
theorem RD.same (h : RD w b v xs us L) (hs : w.heap.size ≤ w'.heap.size) (e : ∀ k, unR b v us L.length k → w'.heap[k]? = w.heap[k]?) : RD w' b v xs us L :=
  ⟨(World.cell?_of_block (a := ⟨b, 0, none⟩) (e b (Or.inl rfl))).trans h.c0, (World.frozen?_of_block (a := ⟨b, 0, none⟩) (e b (Or.inl rfl))).trans h.z, own_same h.row (fun k hk => e k (Or.inr (Or.inl hk))) hs,
    fun k x hx => by
      obtain ⟨h1, h2, h3, h4⟩ := h.at' k x hx
      exact ⟨h1, h2, own_same h3 (fun q hq => e q (Or.inr (Or.inr ⟨k, (List.getElem?_eq_some_iff.1 hx).1, hq⟩))) hs, h4⟩, h.inj, h.ap, h.vb⟩
theorem RD.keep (h : RD w b v xs us L) (g : Below w.heap.size w w') : RD w' b v xs us L := h.same g.size (fun k hk => g.block k (h.lt k hk))
theorem rhas_c (h : RD w b v xs us L) (id : Int) (hi : b64 id) (hl : L.length ≤ 100000) : Calls Tryz.prog 39 #[pV b, .int .i64 id] w fun e w' => e = .returned (.bool (hasL L id)) ∧ w' = w := by
  obtain ⟨ad, cap, rfl, _⟩ := own_form h.row
  have c0 := h.c0
  clear h
  by_cases h4 : 4 ≤ id
  · have hw : IntKind.i64.wrap (4 + (L.length : Int)) = 4 + (L.length : Int) := by rw [IntKind.wrap_i64]; omega
    have e : hasL L id = decide (id < 4 + (L.length : Int)) := by unfold hasL; rw [decide_eq_decide]; omega
    rw [e]; clear e
    go_enter Tryz.func39, Tryz.ntmps39
    go_wp2
    go_ret
    exact ⟨rfl, rfl⟩
  · have e : hasL L id = false := by unfold hasL; rw [decide_eq_false_iff_not]; omega
    rw [e]; clear e
    go_enter Tryz.func39, Tryz.ntmps39
    go_wp2
    go_ret
    exact ⟨rfl, rfl⟩
/-- the cells of the k-th object -/
theorem RD.cells (h : RD w b v xs us L) {k : Nat} {x : Ob8} (hx : L[k]? = some x) : ∃ g cap, v = .slice (some ⟨g, 0, none⟩) L.length cap ∧ w.cell? ⟨g, k * 2, none⟩ = some (.int .i64 x.1) ∧ w.cell? ⟨g, k * 2 + 1, none⟩ = some (us k) ∧ ∃ ua uc, us k = .slice ua x.2.length uc := by
  have hk := (List.getElem?_eq_some_iff.1 hx).1
  obtain ⟨h1, h2, h3, _⟩ := h.at' k x hx
  have hr := h.row
  obtain ⟨ua, uc, eu, _⟩ := own_form h3
  rcases hr.2 with ⟨_, e2⟩ | ⟨g, cap, cur, e, _⟩
  · omega
  · subst e
    exact ⟨g, cap, rfl, own_cell hr h1, own_cell hr h2, ua, uc, eu⟩
theorem rcls_c (h : RD w b v xs us L) (id : Int) (hi : b64 id) (hl : L.length ≤ 100000) : Calls Tryz.prog 42 #[pV b, .int .i64 id] w fun e w' => e = .returned (.int .i64 (clsL L id)) ∧ w' = w := by
  have P := Lib.hid (rhas_c h id hi hl)
  cases hh : hasL L id with
  | false =>
    rw [hh] at P
    have e : clsL L id = -1 := by unfold clsL; rw [hh]; rfl
    rw [e]; clear e h hh
    go_enter Tryz.func42, Tryz.ntmps42
    go_wp2_with (first | (go_at_call 39; (refine (P.out).mono ?_); rintro e w2 ⟨rfl, hw2⟩; subst w2))
    go_ret
    exact ⟨rfl, rfl⟩
  | true =>
    rw [hh] at P
    obtain ⟨k, x, rfl, hk, hx, ho⟩ := hasL_y hh
    have e : clsL L (4 + (k : Int)) = x.1 := by unfold clsL; rw [hh, ho]; rfl
    rw [e]; clear e
    have c0 := h.c0
    obtain ⟨g, cap, rfl, ca, cb, ua, uc, eu⟩ := h.cells hx
    have hw : IntKind.i64.wrap (4 + (k : Int) - 4) = (k : Int) := by rw [IntKind.wrap_i64]; omega
    have hkl : (k : Int) < (L.length : Int) := by omega
    clear h hh hx ho
    go_enter Tryz.func42, Tryz.ntmps42
    go_wp2_with (first | (go_at_call 39; (refine (P.out).mono ?_); rintro e w2 ⟨rfl, hw2⟩; subst w2))
    go_ret
    exact ⟨rfl, rfl⟩
theorem rfld_c (h : RD w b v xs us L) (id : Int) (hi : b64 id) (hl : L.length ≤ 100000) : Calls Tryz.prog 43 #[pV b, .int .i64 id] w fun e w' => e = .returned (.int .i64 (fldL L id)) ∧ w' = w := by
  have P := Lib.hid (rhas_c h id hi hl)
  cases hh : hasL L id with
  | false =>
    rw [hh] at P
    have e : fldL L id = -1 := by unfold fldL; rw [hh]; rfl
    rw [e]; clear e h hh
    go_enter Tryz.func43, Tryz.ntmps43
    go_wp2_with (first | (go_at_call 39; (refine (P.out).mono ?_); rintro e w2 ⟨rfl, hw2⟩; subst w2))
    go_ret
    exact ⟨rfl, rfl⟩
  | true =>
    rw [hh] at P
    obtain ⟨k, x, rfl, hk, hx, ho⟩ := hasL_y hh
    have e : fldL L (4 + (k : Int)) = (x.2.length : Int) := by unfold fldL; rw [hh, ho]; rfl
    rw [e]; clear e
    have c0 := h.c0
    obtain ⟨g, cap, rfl, ca, cb, ua, uc, eu⟩ := h.cells hx
    rw [eu] at cb
    have hw : IntKind.i64.wrap (4 + (k : Int) - 4) = (k : Int) := by rw [IntKind.wrap_i64]; omega
    have hkl : (k : Int) < (L.length : Int) := by omega
    clear h hh hx ho eu
    go_enter Tryz.func43, Tryz.ntmps43
    go_wp2_with (first | (go_at_call 39; (refine (P.out).mono ?_); rintro e w2 ⟨rfl, hw2⟩; subst w2))
    go_ret
    exact ⟨rfl, rfl⟩
theorem rget_c (h : RD w b v xs us L) (id i : Int) (hi : b64 id) (hj : b64 i) (hl : L.length ≤ 100000) : Calls Tryz.prog 28 #[pV b, .int .i64 id, .int .i64 i] w fun e w' => e = .returned (.tuple #[.int .u32 (gvL L id i), .bool (inO L id i)]) ∧ w' = w := by
  have P := Lib.hid (rhas_c h id hi hl)
  cases hh : hasL L id with
  | false =>
    rw [hh] at P
    have hin : inO L id i = false := by unfold inO; rw [hh]; rfl
    have eg : gvL L id i = 0 := by unfold gvL; rw [hin]; rfl
    rw [eg, hin]; clear eg hin h hh
    go_enter Tryz.func28, Tryz.ntmps28
    go_wp2_with (first | (go_at_call 39; (refine (P.out).mono ?_); rintro e w2 ⟨rfl, hw2⟩; subst w2))
    go_returns
    exact ⟨rfl, rfl⟩
  | true =>
    rw [hh] at P
    by_cases h0 : 0 ≤ i
    · obtain ⟨k, x, rfl, hk, hx, ho⟩ := hasL_y hh
      have hfl : fldL L (4 + (k : Int)) = (x.2.length : Int) := by unfold fldL; rw [hh, ho]; rfl
      have c0 := h.c0
      obtain ⟨g, cap, rfl, ca, cb, ua, uc, eu⟩ := h.cells hx
      have h3 := (h.at' k x hx).2.2.1
      have h62 := (h.at' k x hx).2.2.2.1.2.2
      rw [eu] at cb h3
      have hw : IntKind.i64.wrap (4 + (k : Int) - 4) = (k : Int) := by rw [IntKind.wrap_i64]; omega
      have hkl : (k : Int) < (L.length : Int) := by omega
      by_cases h1 : i < (x.2.length : Int)
      · obtain ⟨j, rfl⟩ : ∃ j : Nat, i = j := ⟨i.toNat, by omega⟩
        have hjx : j < x.2.length := by omega
        obtain ⟨k', x', j', e1, _, hx', ho', e2, hj', hin⟩ := inO_yes (L := L) (id := 4 + (k : Int)) (i := (j : Int)) (by rw [hfl]; omega)
        have eg : gvL L (4 + (k : Int)) (j : Int) = x.2[j] := by
          unfold gvL; rw [hin, if_pos rfl, ho, Int.toNat_natCast, List.getD_eq_getElem?_getD, List.getElem?_eq_getElem hjx]; rfl
        rw [eg, hin]
        obtain ⟨gu, rfl, cu⟩ : ∃ gu, ua = some ⟨gu, 0, none⟩ ∧ w.cell? ⟨gu, j, none⟩ = some (.int .u32 x.2[j]) := by
          rcases h3.2 with ⟨_, e2⟩ | ⟨gu, cap', cur, e, _⟩
          · omega
          · cases e
            exact ⟨gu, rfl, own_cell h3 (by simp [w32])⟩
        have d1 : decide ((x.2.length : Int) ≤ (j : Int)) = false := by simp; omega
        generalize x.2[j] = y at *
        clear h hh hx ho eu h3 h62 eg hin e1 e2 hx' ho' hj' hfl
        generalize x.2.length = xl at *
        go_enter Tryz.func28, Tryz.ntmps28
        go_wp2_with (first | (go_at_call 39; (refine (P.out).mono ?_); rintro e w2 ⟨rfl, hw2⟩; subst w2))
        go_returns
        exact ⟨rfl, rfl⟩
      · have hin : inO L (4 + (k : Int)) i = false := inO_no (by rw [hfl]; omega)
        have eg : gvL L (4 + (k : Int)) i = 0 := by unfold gvL; rw [hin]; rfl
        have d1 : decide ((x.2.length : Int) ≤ i) = true := by simp; omega
        rw [eg, hin]
        clear h hh hx ho eu h3 h62 eg hin hfl
        generalize x.2.length = xl at *
        go_enter Tryz.func28, Tryz.ntmps28
        go_wp2_with (first | (go_at_call 39; (refine (P.out).mono ?_); rintro e w2 ⟨rfl, hw2⟩; subst w2))
        go_returns
        exact ⟨rfl, rfl⟩
    · have hin : inO L id i = false := inO_no (by omega)
      have eg : gvL L id i = 0 := by unfold gvL; rw [hin]; rfl
      rw [eg, hin]; clear eg hin h hh
      go_enter Tryz.func28, Tryz.ntmps28
      go_wp2_with (first | (go_at_call 39; (refine (P.out).mono ?_); rintro e w2 ⟨rfl, hw2⟩; subst w2))
      go_returns
      exact ⟨rfl, rfl⟩
end
end Wd
end Go.Proofs.YteiejjmhmmkdhaaGreat

/- The document's own Ideal: Put. -/
namespace Go.Proofs.YteiejjmhmmkdhaaGreat
open Go.RowKit
set_option linter.unusedVariables false
set_option maxRecDepth 20000
namespace Wd
section
variable {w w' w1 w2 : World} {b : Nat} {v : Value} {xs : List Value} {us : Nat → Value} {L : List Ob8}
theorem w32_set (L : List Int) (j : Nat) (y : Int) : (w32 L).set j (.int .u32 y) = w32 (L.set j y) := by simp [w32]
/-- a field is turned -/
theorem RD.put (h : RD w b v xs us L) {k j gu uc : Nat} {x : Ob8} (hx : L[k]? = some x) (hj : j < x.2.length) (hu : us k = .slice (some ⟨gu, 0, none⟩) x.2.length uc) {y : Int} (hy : b32 y) :
    RD (w.setCell ⟨gu, j, none⟩ (.int .u32 y)) b v xs us (L.set k (puO x (j : Int) y)) ∧ Cg (unR b v us L.length) w (w.setCell ⟨gu, j, none⟩ (.int .u32 y)) := by
  have hk := (List.getElem?_eq_some_iff.1 hx).1
  have hub : (us k).ownBlock = some gu := by rw [hu]; rfl
  obtain ⟨h1, h2, h3, h4, h5⟩ := h.at' k x hx
  obtain ⟨a1, a2⟩ := h.ap k gu hk hub
  have hc : Cg (fun q => q = gu) w (w.setCell ⟨gu, j, none⟩ (.int .u32 y)) := (Cg.refl (fun q => q = gu) w).set ⟨gu, j, none⟩ rfl _
  have oth : ∀ q, q < w.heap.size → q ≠ gu → (w.setCell ⟨gu, j, none⟩ (.int .u32 y)).heap[q]? = w.heap[q]? := fun q hq hne => hc.block q hq hne
  have hp : b < w.heap.size := World.block_lt_of_cell? w _ h.c0
  refine ⟨⟨(World.cell?_of_block (a := ⟨b, 0, none⟩) (oth b hp (fun e => a1 e.symm))).trans h.c0, by rw [World.frozen?_setCell]; exact h.z, ?_, ?_, ?_, ?_, h.vb⟩, hc.mono (fun q hq => Or.inr (Or.inr ⟨k, hk, by rw [hq]; exact hub⟩))⟩
  · rw [List.length_set]
    exact own_same h.row (fun q hq => oth q (own_lt h.row q hq) (fun e => a2 (by rw [hq, e]))) hc.size
  · intro m z hz
    rw [List.getElem?_set] at hz
    split at hz
    · rename_i e
      subst e
      cases hz
      refine ⟨h1, h2, ?_, by rw [puO_len]; exact h4, fun z hz => ?_⟩
      · rw [hu] at h3
        have := (h3.stored j (.int .u32 y)).1
        rw [puO_len, hu]
        simp only [puO, Int.toNat_natCast]
        rw [← w32_set]
        exact this
      · rcases List.mem_or_eq_of_mem_set hz with hz | rfl
        · exact h5 z hz
        · exact hy
    · rename_i hne
      obtain ⟨g1, g2, g3, g4⟩ := h.at' m z hz
      have hm := (List.getElem?_eq_some_iff.1 hz).1
      exact ⟨g1, g2, own_same g3 (fun q hq => oth q (own_lt g3 q hq) (fun e => hne (h.inj m k q hm hk hq (by rw [e]; exact hub)).symm)) hc.size, g4⟩
  · rw [List.length_set]; exact h.inj
  · rw [List.length_set]; exact h.ap
theorem rput_c (h : RD w b v xs us L) (id i y : Int) (hi : b64 id) (hj : b64 i) (hy : b32 y) (hl : L.length ≤ 100000) : Calls Tryz.prog 14 #[pV b, .int .i64 id, .int .i64 i, .int .u32 y] w fun e w' => e = .returned (.bool (puB L id i y)) ∧ RD w' b v xs us (puL L id i y) ∧ Cg (unR b v us L.length) w w' := by
  have P := Lib.hid (rget_c h id i hi hj hl)
  by_cases h1 : 0 ≤ i ∧ i < fldL L id
  · obtain ⟨k, x, j, rfl, hk, hx, ho, rfl, hjx, hin⟩ := inO_yes h1
    rw [hin] at P
    by_cases hz : y = 0
    · have eb : puB L (4 + (k : Int)) (j : Int) y = false := by unfold puB; simp [hz]
      have dz : (y == 0) = true := by simp [hz]
      have fin := Lib.hid (⟨h, Cg.refl _ _⟩ : RD w b v xs us L ∧ Cg (unR b v us L.length) w w)
      unfold puL; rw [eb, if_neg (by decide)]
      clear h hx ho hin h1 eb hz
      go_enter Tryz.func14, Tryz.ntmps14
      go_wp2_with (first | (go_at_call 28; (refine (P.out).mono ?_); rintro e w2 ⟨rfl, hw2⟩; subst w2))
      go_ret
      exact ⟨rfl, fin.out⟩
    · have eb : puB L (4 + (k : Int)) (j : Int) y = true := by unfold puB; rw [hin]; simp [hz]
      have dz : (y == 0) = false := by simp [hz]
      have el : puL L (4 + (k : Int)) (j : Int) y = L.set k (puO x (j : Int) y) := by unfold puL; rw [eb, if_pos rfl, ho, show (4 + (k : Int) - 4).toNat = k by omega]
      rw [eb, el]; clear eb el
      have c0 := h.c0
      have h3 := (h.at' k x hx).2.2.1
      obtain ⟨g, cap, rfl, ca, cb, ua, uc, eu⟩ := h.cells hx
      rw [eu] at cb h3
      obtain ⟨gu, rfl, cu, zu⟩ : ∃ gu, ua = some ⟨gu, 0, none⟩ ∧ w.cell? ⟨gu, j, none⟩ = some (.int .u32 x.2[j]) ∧ w.frozen? ⟨gu, j, none⟩ = false := by
        rcases h3.2 with ⟨_, e2⟩ | ⟨gu, cap', cur, e, _⟩
        · omega
        · cases e
          exact ⟨gu, rfl, own_cell h3 (by simp [w32]), own_froz h3 j⟩
      have hw : IntKind.i64.wrap (4 + (k : Int) - 4) = (k : Int) := by rw [IntKind.wrap_i64]; omega
      have hkl : (k : Int) < (L.length : Int) := by omega
      have hjl : (j : Int) < (x.2.length : Int) := by omega
      have fin := Lib.hid (h.put hx hjx eu hy)
      clear h hx ho hin h1 hz h3 eu
      generalize x.2[j] = yo at *
      generalize puO x (j : Int) y = xp at *
      generalize x.2.length = xl at *
      go_enter Tryz.func14, Tryz.ntmps14
      go_wp2_with (first | (go_at_call 28; (refine (P.out).mono ?_); rintro e w2 ⟨rfl, hw2⟩; subst w2))
      go_ret
      exact ⟨rfl, fin.out⟩
  · have hin := inO_no h1
    rw [hin] at P
    have eb : puB L id i y = false := by unfold puB; rw [hin]; rfl
    have fin := Lib.hid (⟨h, Cg.refl _ _⟩ : RD w b v xs us L ∧ Cg (unR b v us L.length) w w)
    unfold puL; rw [eb, if_neg (by decide)]
    clear h hin h1 eb
    go_enter Tryz.func14, Tryz.ntmps14
    go_wp2_with (first | (go_at_call 28; (refine (P.out).mono ?_); rintro e w2 ⟨rfl, hw2⟩; subst w2))
    go_ret
    exact ⟨rfl, fin.out⟩
end
end Wd
end Go.Proofs.YteiejjmhmmkdhaaGreat

/- The document's own Ideal: Alloc. -/
namespace Go.Proofs.YteiejjmhmmkdhaaGreat
open Go.RowKit
set_option linter.unusedVariables false
set_option maxRecDepth 20000
namespace Wd
theorem step_any8 {P : Program} {w : World} {ops : Array Oper} {o : Oper} {a : Act} {K : Act → World → Prop} {Q : Exit → Act → World → Prop} {E : Prop} (hgd : o.guard = none) (s x : Operand) (t : TypeId)
    (ho : o.op = .call { callee := .builtin .append, args := #[s, x], argTypes := #[t, t] })
    (base : Nat) (e : TypeId) (i : TypeInfo) (z : Value) (size bytes : Nat) (ht : P.underlying t = some (.slice e)) (hi : P.info? e = some i) (hz : i.zero = some z)
    (hsize : i.size = size) (hby : i.bytes = bytes) (hzs : z.cells.size = size) (hsz : 0 < size)
    (v u : Value) (n m : Nat) (xs news : List Value) (hs : a.eval s = v) (hx : a.eval x = u) (hown : w.ownsRow base e size v n xs) (hu : Rd w u m news) (hl : news.length = m * size) (h1 : ∀ u ∈ news, u.oneCell' = true)
    (h63 : n + m ≤ maxLen) (hbytes : (n + m) * bytes ≤ 140737488355328) (hbase : base ≤ w.heap.size)
    (h : ∀ v' w', w'.ownsRow base e size v' (n + m) (xs ++ news) → w.grownBy w' v.ownBlock → (v'.ownBlock = v.ownBlock ∨ v'.ownBlock = some w.heap.size) → K (a.put o.dst v') w') :
    if Region.wanted o (yielded ops a.tmps) = true then Oper.wp P o a w K Q else E := by
  have hw : Region.wanted o (yielded ops a.tmps) = true := by simp [Region.wanted, hgd]
  rw [if_pos hw]
  obtain ⟨v', w', hr, h2, h3, h5⟩ := run_app_any (P := P) w base t o.type e i z size bytes ht hi hz hsize hby hzs hsz v u n m xs news hown hu hl h1 h63 hbytes hbase
  unfold Oper.wp execOp
  simp only [ho, resolve, invoke, builtin, Sem.run_bind, Sem.run_pure, Result.andThen_ok, List.map_toArray, List.map_cons, List.map_nil, hs, hx, hr]
  exact h v' w' h2 h3 h5
theorem infoO8 : (Tryz.prog.info? 89).map (fun i => (i.zero, i.size, i.bytes)) = some (some (.agg #[.int .i64 0, .slice none 0 0]), 2, 32) := by kernel_rfl
theorem rd_two (w : World) (u1 u2 : Value) (T : TypeId) : Rd (w.alloc (.cells #[u1, u2] T)) (.slice (some ⟨w.heap.size, 0, none⟩) 1 1) 1 [u1, u2] := by
  refine Or.inr ⟨_, _, rfl, fun j x hx => ?_⟩
  match j, hx with
  | 0, hx => simp at hx; subst hx; rw [Addr.add_lit]; simp
  | 1, hx => simp at hx; subst hx; rw [Addr.add_lit]; simp
/-- a new object, j of its fields are there -/
structure Al9 (w wr : World) (q j : Nat) (c : Int) (u : Value) : Prop where
  bel : Below w.heap.size w wr
  qn : w.heap.size ≤ q
  ql : q < wr.heap.size
  c0 : wr.cell? ⟨q, 0, none⟩ = some (.int .i64 c)
  c1 : wr.cell? ⟨q, 1, none⟩ = some u
  z1 : wr.frozen? ⟨q, 1, none⟩ = false
  own : wr.ownsRow 0 49 1 u j (List.replicate j (.int .u32 2))
  ub : ∀ k, u.ownBlock = some k → w.heap.size ≤ k ∧ k ≠ q
section
variable {w w' w1 w2 wr : World} {b q j : Nat} {v v' u u' : Value} {xs : List Value} {us : Nat → Value} {L : List Ob8} {c : Int}
theorem Al9.up (h : Al9 w wr q j c u) (g : Below wr.heap.size wr w1) : Al9 w w1 q j c u :=
  ⟨h.bel.trans (g.mono h.bel.size), h.qn, Nat.lt_of_lt_of_le h.ql g.size, cell_up g h.c0, cell_up g h.c1, (g.frozen h.ql).trans h.z1, own_same h.own (fun k hk => g.block k (own_lt h.own k hk)) g.size, h.ub⟩
theorem Al9.cell (h : Al9 w wr q j c u) {o : Obj} (hg : (wr.alloc o).grownBy w2 u.ownBlock) : w2.cell? ⟨q, 1, none⟩ = some u ∧ w2.frozen? ⟨q, 1, none⟩ = false := by
  have hs : (wr.alloc o).heap.size = wr.heap.size + 1 := by simp
  have hq := h.ql
  have e : w2.heap[q]? = wr.heap[q]? := (hg.block q (by omega) (fun e => (h.ub q e.symm).2 rfl)).trans (Below.heap_alloc _ _ _ hq)
  exact ⟨(World.cell?_of_block (a := ⟨q, 1, none⟩) e).trans h.c1, (World.frozen?_of_block (a := ⟨q, 1, none⟩) e).trans h.z1⟩
theorem Al9.next (h : Al9 w wr q j c u) {o : Obj} (ho : w2.ownsRow 0 49 1 u' (j + 1) (List.replicate j (.int .u32 2) ++ [.int .u32 2])) (hg : (wr.alloc o).grownBy w2 u.ownBlock) (hv : u'.ownBlock = u.ownBlock ∨ u'.ownBlock = some (wr.alloc o).heap.size) :
    Al9 w (w2.setCell ⟨q, 1, none⟩ u') q (j + 1) c u' := by
  have hs : (wr.alloc o).heap.size = wr.heap.size + 1 := by simp
  have hq := h.ql
  have hqn := h.qn
  have hb := h.bel.size
  have hz := hg.size
  have e : w2.heap[q]? = wr.heap[q]? := (hg.block q (by omega) (fun e => (h.ub q e.symm).2 rfl)).trans (Below.heap_alloc _ _ _ hq)
  have hu' : ∀ k, u'.ownBlock = some k → w.heap.size ≤ k ∧ k ≠ q := by
    intro k hk
    rcases hv with e | e
    · exact h.ub k (by rw [← e]; exact hk)
    · rw [e] at hk; have := Option.some.inj hk; omega
  have c1' : w2.cell? ⟨q, 1, none⟩ = some u := (World.cell?_of_block (a := ⟨q, 1, none⟩) e).trans h.c1
  refine ⟨⟨hg.os.trans h.bel.os, hg.tape.trans h.bel.tape, hg.output.trans h.bel.output, ?_, fun k hk => ?_⟩, hqn, ?_, ?_, World.cell?_setCell_same _ _ _ c1', ?_, ?_, hu'⟩
  · have : (w2.setCell ⟨q, 1, none⟩ u').heap.size = w2.heap.size := by simp [World.setCell]
    omega
  · rw [Below.heap_setCell _ _ _ _ (show k ≠ q by omega), hg.block k (by omega) (fun e => by have := (h.ub k e.symm).1; omega), Below.heap_alloc _ _ _ (by omega)]
    exact h.bel.block k hk
  · have : (w2.setCell ⟨q, 1, none⟩ u').heap.size = w2.heap.size := by simp [World.setCell]
    omega
  · rw [World.cell?_setCell_other _ _ _ _ (by intro e; injection e with _ e2; omega)]
    exact (World.cell?_of_block (a := ⟨q, 0, none⟩) e).trans h.c0
  · rw [World.frozen?_setCell]; exact (World.frozen?_of_block (a := ⟨q, 1, none⟩) e).trans h.z1
  · have e2 : List.replicate (j + 1) (Value.int .u32 2) = List.replicate j (.int .u32 2) ++ [.int .u32 2] := List.replicate_succ'
    rw [e2]
    exact own_same ho (fun k hk => Below.heap_setCell _ _ _ _ (hu' k hk).2) (by simp [World.setCell])
/-- an object more -/
theorem RD.push (h : RD w b v xs us L) (b1 : Below w.heap.size w w1) {x : Ob8} (hu : w1.ownsRow 0 49 1 u x.2.length (w32 x.2)) (hq : ∀ k, u.ownBlock = some k → w.heap.size ≤ k) (hx : 0 ≤ x.1 ∧ x.1 ≤ 4095 ∧ x.2.length ≤ 62) (hy : ∀ y ∈ x.2, b32 y)
    (ho : w2.ownsRow 0 89 2 v' (L.length + 1) (xs ++ [.int .i64 x.1, u])) (hg : w1.grownBy w2 v.ownBlock) (hv : v'.ownBlock = v.ownBlock ∨ v'.ownBlock = some w1.heap.size) :
    RD (w2.setCell ⟨b, 0, none⟩ v') b v' (xs ++ [.int .i64 x.1, u]) (fun k => if k = L.length then u else us k) (L ++ [x]) ∧ Cg (unR b v us L.length) w (w2.setCell ⟨b, 0, none⟩ v') ∧ ∀ k, unR b v' (fun k => if k = L.length then u else us k) (L.length + 1) k → unR b v us L.length k ∨ w.heap.size ≤ k := by
  have hp : b < w.heap.size := World.block_lt_of_cell? w _ h.c0
  have hlx : xs.length = L.length * 2 := h.row.1
  have hb1 := b1.size
  have hvb : v'.ownBlock ≠ some b := by
    rcases hv with e | e
    · rw [e]; exact h.vb
    · rw [e]; intro e2; have := Option.some.inj e2; omega
  have hul : ∀ k, u.ownBlock = some k → k < w1.heap.size := fun k hk => own_lt hu k hk
  have hvu : ∀ k, u.ownBlock = some k → v'.ownBlock ≠ some k ∧ k ≠ b := fun k hk => by
    have h1 := hq k hk
    have h2 := hul k hk
    refine ⟨?_, by omega⟩
    rcases hv with e | e
    · rw [e]; intro e2; have := own_lt h.row k e2; omega
    · rw [e]; intro e2; have := Option.some.inj e2; omega
  have hc : Cg (fun q => q = b ∨ v.ownBlock = some q) w w2 := (Cg.below _ b1).trans' (G := fun q => q = b ∨ v.ownBlock = some q) ((Cg.refl _ _).grown hg (fun k e => Or.inl (Or.inr e))) (fun k e => Or.inl e)
  have hs : ∀ q, q ≠ b → (w2.setCell ⟨b, 0, none⟩ v').heap[q]? = w2.heap[q]? := fun q hq => Below.heap_setCell _ _ _ _ hq
  have old : ∀ q, q < w.heap.size → q ≠ b → v.ownBlock ≠ some q → (w2.setCell ⟨b, 0, none⟩ v').heap[q]? = w.heap[q]? := fun q h1 h2 h3 => (hs q h2).trans (hc.block q h1 (fun e => e.elim h2 h3))
  have hpw : w2.heap[b]? = w.heap[b]? := by
    rw [hg.block b (Nat.lt_of_lt_of_le hp b1.size) (fun e => h.vb e.symm), b1.block b hp]
  have huo : ∀ k, k < L.length → ∀ q, (us k).ownBlock = some q → q < w.heap.size := fun k hk q hq => h.lt q (Or.inr (Or.inr ⟨k, hk, hq⟩))
  refine ⟨⟨World.cell?_setCell_same _ _ _ ((World.cell?_of_block (a := ⟨b, 0, none⟩) hpw).trans h.c0), by rw [World.frozen?_setCell]; exact (World.frozen?_of_block (a := ⟨b, 0, none⟩) hpw).trans h.z, ?_, ?_, ?_, ?_, hvb⟩, ?_, ?_⟩
  · rw [List.length_append, List.length_singleton]
    exact own_same ho (fun q hq => hs q (fun e => hvb (by rw [hq, e]))) (by simp [World.setCell])
  · intro k z hz
    rw [List.getElem?_append] at hz
    split at hz
    · rename_i hk
      obtain ⟨h1, h2, h3, h4⟩ := h.at' k z hz
      rw [if_neg (by omega)]
      exact ⟨by rw [List.getElem?_append_left (by omega)]; exact h1, by rw [List.getElem?_append_left (by omega)]; exact h2, own_same h3 (fun q hq => old q (own_lt h3 q hq) (h.ap k q hk hq).1 (h.ap k q hk hq).2) (by have := hc.size; simpa [World.setCell] using this), h4⟩
    · rename_i hk
      have hk2 : k = L.length := by
        have := (List.getElem?_eq_some_iff.1 hz).1
        simp at this; omega
      subst hk2
      rw [Nat.sub_self] at hz
      cases hz
      rw [if_pos rfl]
      refine ⟨by rw [List.getElem?_append_right (by omega), hlx, Nat.sub_self]; rfl, by rw [List.getElem?_append_right (by omega), hlx, show L.length * 2 + 1 - L.length * 2 = 1 by omega]; rfl, own_same hu (fun q hk => ?_) (by have := hg.size; simpa [World.setCell] using this), hx, hy⟩
      have h1 := hq q hk
      have h2 := hul q hk
      rw [hs q (by omega)]
      exact hg.block q h2 (fun e => by have := own_lt h.row q e.symm; omega)
  · intro i j q hi hj ei ej
    simp only [List.length_append, List.length_singleton] at hi hj
    by_cases h1 : i = L.length <;> by_cases h2 : j = L.length
    · omega
    · rw [if_pos h1] at ei; rw [if_neg h2] at ej
      have := hq q ei; have := huo j (by omega) q ej; omega
    · rw [if_neg h1] at ei; rw [if_pos h2] at ej
      have := hq q ej; have := huo i (by omega) q ei; omega
    · rw [if_neg h1] at ei; rw [if_neg h2] at ej
      exact h.inj i j q (by omega) (by omega) ei ej
  · intro k q hk e
    simp only [List.length_append, List.length_singleton] at hk
    by_cases h1 : k = L.length
    · rw [if_pos h1] at e
      exact ⟨(hvu q e).2, (hvu q e).1⟩
    · rw [if_neg h1] at e
      have hk' : k < L.length := by omega
      refine ⟨(h.ap k q hk' e).1, ?_⟩
      rcases hv with e2 | e2
      · rw [e2]; exact (h.ap k q hk' e).2
      · rw [e2]; intro e3; have := Option.some.inj e3; have := huo k hk' q e; omega
  · exact (hc.set ⟨b, 0, none⟩ (Or.inl rfl) v').mono (fun q hq => hq.elim Or.inl (fun e => Or.inr (Or.inl e)))
  · rintro k (rfl | hk | ⟨j, hj, hk⟩)
    · exact Or.inl (Or.inl rfl)
    · rcases hv with e | e
      · exact Or.inl (Or.inr (Or.inl (by rw [← e]; exact hk)))
      · rw [e] at hk; have := Option.some.inj hk; exact Or.inr (by omega)
    · by_cases h1 : j = L.length
      · simp only [h1, if_true] at hk; exact Or.inr (hq k hk)
      · simp only [if_neg h1] at hk; exact Or.inl (Or.inr (Or.inr ⟨j, by omega, hk⟩))
end
end Wd
end Go.Proofs.YteiejjmhmmkdhaaGreat

/- The document's own Ideal: Alloc, the walk. -/
namespace Go.Proofs.YteiejjmhmmkdhaaGreat
open Go.RowKit
set_option linter.unusedVariables false
set_option maxRecDepth 20000
namespace Wd
section
variable {w w' w1 w2 wr : World} {b : Nat} {v : Value} {xs : List Value} {us : Nat → Value} {L : List Ob8}
set_option maxHeartbeats 32000000 in
theorem ralloc_c (h : RD w b v xs us L) (c n : Int) (hc : b64 c) (hn : b64 n) (hl : L.length ≤ 10000) : Calls Tryz.prog 18 #[pV b, .int .i64 c, .int .i64 n] w fun e w' => e = .returned (.int .i64 (alI L c n)) ∧ ∃ v' xs' us', RD w' b v' xs' us' (alL L c n) ∧ Cg (unR b v us L.length) w w' ∧ ∀ k, unR b v' us' (alL L c n).length k → unR b v us L.length k ∨ w.heap.size ≤ k := by
  cases ok : okA c n with
  | false =>
    have ei : alI L c n = -1 := by unfold alI; rw [ok]; rfl
    have el : alL L c n = L := by unfold alL; rw [ok]; rfl
    rw [ei, el]
    have fin := Lib.hid (⟨v, xs, us, h, Cg.refl _ _, fun k hk => Or.inl hk⟩ : ∃ v' xs' us', RD w b v' xs' us' L ∧ Cg (unR b v us L.length) w w ∧ ∀ k, unR b v' us' L.length k → unR b v us L.length k ∨ w.heap.size ≤ k)
    have key : c < 0 ∨ (0 ≤ c ∧ 4095 < c) ∨ (0 ≤ c ∧ c ≤ 4095 ∧ n < 0) ∨ (0 ≤ c ∧ c ≤ 4095 ∧ 0 ≤ n ∧ 62 < n) := by
      unfold okA at ok
      rw [Bool.and_eq_false_iff, decide_eq_false_iff_not, decide_eq_false_iff_not] at ok
      omega
    clear h ok ei el
    rcases key with k1 | ⟨k1, k2⟩ | ⟨k1, k2, k3⟩ | ⟨k1, k2, k3, k4⟩
    · have d1 : decide (c < 0) = true := by simpa using k1
      go_enter Tryz.func18, Tryz.ntmps18
      go_wp2
      go_ret
      exact ⟨rfl, fin.out⟩
    · have d1 : decide (c < 0) = false := by simp; omega
      have d2 : decide (4095 < c) = true := by simpa using k2
      go_enter Tryz.func18, Tryz.ntmps18
      go_wp2
      go_ret
      exact ⟨rfl, fin.out⟩
    · have d1 : decide (c < 0) = false := by simp; omega
      have d2 : decide (4095 < c) = false := by simp; omega
      have d3 : decide (n < 0) = true := by simpa using k3
      go_enter Tryz.func18, Tryz.ntmps18
      go_wp2
      go_ret
      exact ⟨rfl, fin.out⟩
    · have d1 : decide (c < 0) = false := by simp; omega
      have d2 : decide (4095 < c) = false := by simp; omega
      have d3 : decide (n < 0) = false := by simp; omega
      have d4 : decide (62 < n) = true := by simpa using k4
      go_enter Tryz.func18, Tryz.ntmps18
      go_wp2
      go_ret
      exact ⟨rfl, fin.out⟩
  | true =>
    have ei : alI L c n = 4 + (L.length : Int) := by unfold alI; rw [ok, if_pos rfl]
    have el : alL L c n = L ++ [newO c n] := by unfold alL; rw [ok, if_pos rfl]
    rw [ei, el]
    unfold okA at ok
    rw [Bool.and_eq_true, decide_eq_true_eq, decide_eq_true_eq] at ok
    obtain ⟨⟨k1, k2⟩, k3, k4⟩ := ok
    obtain ⟨n, rfl⟩ : ∃ m : Nat, n = m := ⟨n.toNat, by omega⟩
    have d1 : decide (c < 0) = false := by simp; omega
    have d2 : decide (4095 < c) = false := by simp; omega
    have d3 : decide ((n : Int) < 0) = false := by simp
    have d4 : decide (62 < (n : Int)) = false := by simp; omega
    have fin := Lib.hid (fun (w1 w2 : World) (q : Nat) (u v' : Value) (a : Al9 w w1 q n c u) (o : w2.ownsRow 0 89 2 v' (L.length + 1) (xs ++ [.int .i64 c, u])) (g : (w1.alloc (.cells #[.int .i64 c, u] 89)).grownBy w2 v.ownBlock) (hv : v'.ownBlock = v.ownBlock ∨ v'.ownBlock = some (w1.alloc (.cells #[.int .i64 c, u] 89)).heap.size) => by
      have hb := a.bel
      have a2 := a.up ((Below.refl _ _).alloc (Nat.le_refl _) (.cells #[.int .i64 c, u] 89))
      have hu : (w1.alloc (.cells #[.int .i64 c, u] 89)).ownsRow 0 49 1 u (newO c (n : Int)).2.length (w32 (newO c (n : Int)).2) := by
        have := a2.own
        simp only [newO, Int.toNat_natCast, List.length_replicate, w32, List.map_replicate]
        exact this
      obtain ⟨e1, e2, e3⟩ := h.push (x := newO c (n : Int)) (hb.alloc hb.size _) hu (fun k hk => (a.ub k hk).1) (by simp only [newO, Int.toNat_natCast, List.length_replicate]; omega) (fun y hy => by
        have := (List.mem_replicate.1 hy).2
        subst this; constructor <;> decide) o g hv
      exact (⟨v', _, _, e1, e2, by rw [List.length_append, List.length_singleton]; exact e3⟩ : ∃ v'' xs' us', RD (w2.setCell ⟨b, 0, none⟩ v') b v'' xs' us' (L ++ [newO c (n : Int)]) ∧ Cg (unR b v us L.length) w (w2.setCell ⟨b, 0, none⟩ v') ∧ ∀ k, unR b v'' us' (L ++ [newO c (n : Int)]).length k → unR b v us L.length k ∨ w.heap.size ≤ k))
    have hrow := Lib.hid (fun (w1 : World) (b1 : Below w.heap.size w w1) => (h.keep b1).row)
    have hcell := Lib.hid (fun (w1 : World) (b1 : Below w.heap.size w w1) => (⟨(h.keep b1).c0, (h.keep b1).z⟩ : _ ∧ _))
    have hpl := Lib.hid (fun (w1 w2 : World) (g1 : Below w.heap.size w w1) (g : w1.grownBy w2 v.ownBlock) => (⟨(World.cell?_of_block (a := ⟨b, 0, none⟩) (g.block b (Nat.lt_of_lt_of_le (World.block_lt_of_cell? w _ h.c0) g1.size) (fun e => h.vb e.symm))).trans (h.keep g1).c0, (World.frozen?_of_block (a := ⟨b, 0, none⟩) (g.block b (Nat.lt_of_lt_of_le (World.block_lt_of_cell? w _ h.c0) g1.size) (fun e => h.vb e.symm))).trans (h.keep g1).z⟩ : w2.cell? ⟨b, 0, none⟩ = some v ∧ w2.frozen? ⟨b, 0, none⟩ = false))
    have hbl := Lib.hid (World.block_lt_of_cell? w _ h.c0)
    obtain ⟨i0, hi0, hz0, hz1, hz2⟩ := infoP8 infoW8
    obtain ⟨i1, hi1, hy0, hy1, hy2⟩ := infoP8 infoO8
    have hB := Lib.hid ((Below.refl w.heap.size w).alloc (Nat.le_refl _) (.cells #[.int .i64 c, .slice none 0 0] 89))
    have hst := Lib.hid (show Al9 w (w.alloc (.cells #[.int .i64 c, .slice none 0 0] 89)) w.heap.size 0 c (.slice none 0 0) from ⟨hB.out, Nat.le_refl _, by simp, World.cell?_alloc_new _ _ _ 0, World.cell?_alloc_new _ _ _ 1, World.frozen?_alloc_new _ _ _ _, ⟨by simp, Or.inl ⟨rfl, rfl⟩⟩, fun k e => by simp [Value.ownBlock] at e⟩)
    have hbt : Tryz.prog.built 89 [(0, .int .i64 c)] = some #[.int .i64 c, .slice none 0 0] := by kernel_rfl
    obtain ⟨ad, cap, hvf, _⟩ := own_form h.row
    subst hvf
    have hmx : Hid (L.length + 1 ≤ maxLen) := Lib.hid (by simp only [maxLen]; omega)
    have hbx : Hid ((L.length + 1) * 32 ≤ 140737488355328) := Lib.hid (by omega)
    clear h ei el
    go_enter Tryz.func18, Tryz.ntmps18
    go_upto_region 4 with fail
    generalize w.alloc (.cells #[.int .i64 c, .slice none 0 0] 89) = w5 at *
    go_wp2
    clear hB hbt
    go_loopw [8] (fun x wr => ∃ (j : Nat) (u : Value), j ≤ n ∧ x = .int .i64 j ∧ Hid (Al9 w wr w.heap.size j c u)) (fun x _ => n - (intOf x).toNat)
    case atStart => exact ⟨0, _, by omega, rfl, hst⟩
    case round =>
      clear hst
      obtain ⟨j, u, hj, rfl, hA⟩ := hrel
      obtain ⟨ua, uc, e, _⟩ := own_form hA.out.own
      subst e
      by_cases hlt : j < n
      · as_aux_lemma =>
        have d5 : decide ((j : Int) < (n : Int)) = true := by simp; omega
        have w1' : IntKind.i64.wrap ((j : Int) + 1) = ((j + 1 : Nat) : Int) := by rw [IntKind.wrap_i64]; omega
        have cu := hA.out.c1
        have hmj : Hid (j + 1 ≤ maxLen) := Lib.hid (by simp only [maxLen]; omega)
        have hbj : Hid ((j + 1) * 4 ≤ 140737488355328) := Lib.hid (by omega)
        have ho := Lib.hid (own_same hA.out.own (w' := wr.alloc (.cells #[.int .u32 2] 49)) (fun k hk => Below.heap_alloc _ _ _ (own_lt hA.out.own k hk)) (by simp))
        have hj1 : j + 1 ≤ n := by omega
        go_wp2_with (first | (at_builtin; refine wpList_app_any rfl (.tmp 31) (.tmp 32) 87 rfl 0 49 i0 (.int .u32 0) 1 4 Tryz.underlying87 hi0 hz0 hz1 hz2 rfl (by decide) (.slice ua j uc) (.slice (some ⟨wr.heap.size, 0, none⟩) 1 1) j 1 (List.replicate j (.int .u32 2)) [.int .u32 2] (by simp [Act.eval]) (by simp [Act.eval]) ho.out (rd_one _ _ _) rfl (by simp [Value.oneCell']) hmj.out hbj.out (Nat.zero_le _) ?_; intro v9 w9 hown9 hg9 hat9; (obtain ⟨pc9, pz9⟩ := hA.out.cell hg9); have h9 := Lib.hid (hA.out.next hown9 hg9 hat9); (obtain ⟨a9, c9, e9, _⟩ := own_form hown9); subst e9; clear hown9 hg9 hat9 cu))
        go_roundw
        case rel => exact ⟨j + 1, _, hj1, by go_num, h9⟩
        case measure => simp [intOf]; omega
      · have e : j = n := by omega
        subst e
        have d5 : decide ((j : Int) < (j : Int)) = false := by simp
        have cc := hA.out.c0
        have cu := hA.out.c1
        have cb := (hcell.out _ hA.out.bel).1
        have hA2 := Lib.hid (hA.out.up ((Below.refl _ _).drew))
        have ho := Lib.hid (hrow.out _ (hA2.out.bel.alloc hA2.out.bel.size (.cells #[.int .i64 c, .slice ua j uc] 89)))
        have hb9 := Lib.hid (hA2.out.bel.alloc hA2.out.bel.size (.cells #[.int .i64 c, .slice ua j uc] 89))
        have hA3 := Lib.hid (hA2.out.up ((Below.refl _ _).alloc (Nat.le_refl _) (.cells #[.int .i64 c, .slice ua j uc] 89)))
        have hkp : Hid (∀ W : World, (wr.drew.alloc (.cells #[.int .i64 c, .slice ua j uc] 89)).grownBy W (Value.slice ad L.length cap).ownBlock → W.cell? ⟨w.heap.size, 0, none⟩ = some (.int .i64 c) ∧ W.cell? ⟨w.heap.size, 1, none⟩ = some (.slice ua j uc)) := Lib.hid (fun W hg => by
          have hq := hA3.out.ql
          have e := hg.block w.heap.size hq (fun e => by have := own_lt (hrow.out _ (Below.refl _ _)) _ e.symm; omega)
          exact ⟨(World.cell?_of_block (a := ⟨w.heap.size, 0, none⟩) e).trans hA3.out.c0, (World.cell?_of_block (a := ⟨w.heap.size, 1, none⟩) e).trans hA3.out.c1⟩)
        have cb3 := (hcell.out _ hb9.out).1
        go_upto_region 8 with fail
        refine wp_region_last (d := 10) (fuel := 10) (S := (fun wr' => wr'.cell? ⟨b, 0, none⟩ = some (.slice ad L.length cap) ∧ wr'.cell? ⟨w.heap.size, 0, none⟩ = some (.int .i64 c) ∧ wr'.cell? ⟨w.heap.size, 1, none⟩ = some (.slice ua j uc))) (by kernel_rfl) (by kernel_rfl) rfl ?_ (fun hHeld => ?_)
        · (try dsimp only); exact ⟨cb, cc, cu⟩
        try simp only [Act.put, nA]
        refine tk (i := 0) (oi := ⟨some 35, .move (.tmp 0), 44, "ref.go:31", #[], none⟩) (hy := by intro w hSw; (try dsimp only at hSw); obtain ⟨q0, q1, q2⟩ := hSw; go_simp <;> with_reducible rfl) ?_
        try simp only [Act.put, nA]
        refine tk (i := 1) (oi := ⟨some 36, .move (.tmp 0), 44, "ref.go:31", #[], none⟩) (hy := by intro w hSw; (try dsimp only at hSw); obtain ⟨q0, q1, q2⟩ := hSw; go_simp <;> with_reducible rfl) ?_
        try simp only [Act.put, nA]
        refine tk (i := 2) (oi := ⟨some 37, .nilCheck (.tmp 36), 0, "ref.go:31", #[⟨1, .data⟩], none⟩) (hy := by intro w hSw; (try dsimp only at hSw); obtain ⟨q0, q1, q2⟩ := hSw; go_simp <;> with_reducible rfl) ?_
        try simp only [Act.put, nA]
        refine tk (i := 3) (oi := ⟨some 38, .fieldAddr 47 (.tmp 37) 0, 0, "ref.go:31", #[⟨2, .data⟩], none⟩) (hy := by intro w hSw; (try dsimp only at hSw); obtain ⟨q0, q1, q2⟩ := hSw; go_simp <;> with_reducible rfl) ?_
        try simp only [Act.put, nA]
        refine tk (i := 4) (oi := ⟨some 39, .load 45 (.tmp 38), 45, "ref.go:31", #[⟨3, .data⟩], none⟩) (hy := by intro w hSw; (try dsimp only at hSw); obtain ⟨q0, q1, q2⟩ := hSw; go_simp <;> with_reducible rfl) ?_
        try simp only [Act.put, nA]
        refine tk (i := 5) (oi := ⟨some 40, .load 89 (.tmp 7), 89, "ref.go:31", #[], none⟩) (hy := by intro w hSw; (try dsimp only at hSw); obtain ⟨q0, q1, q2⟩ := hSw; go_simp <;> with_reducible rfl) ?_
        try simp only [Act.put, nA]
        refine wpAnyH_ready (rs := [6]) (by kernel_rfl) (by simp) ?_
        refine AllReadyH.cons (o := ⟨some 41, .buildSlice 45 1 #[(0, .tmp 40)], 45, "ref.go:31", #[⟨5, .data⟩], none⟩) rfl (fun K9 hK => ?_) AllReadyH.nil
        go_simp
        refine hK.out _ _ ?_ ?_
        · (try dsimp only); exact ⟨cb3, hA3.out.c0, hA3.out.c1⟩
        clear hK K9 hHeld; intro hHeld
        try simp only [Act.put, nA]
        refine wpAnyH_ready (rs := [7]) (by kernel_rfl) (by simp) ?_
        refine AllReadyH.cons (o := ⟨some 42, .call { callee := .builtin .append, args := #[.tmp 39, .tmp 41], argTypes := #[45, 45] }, 45, "ref.go:31", #[⟨4, .data⟩, ⟨6, .data⟩], none⟩) rfl (fun K9 hK => ?_) AllReadyH.nil
        refine step_any8 rfl (.tmp 39) (.tmp 41) 45 rfl 0 89 i1 (.agg #[.int .i64 0, .slice none 0 0]) 2 32 Tryz.underlying45 hi1 hy0 hy1 hy2 rfl (by decide) (.slice ad L.length cap) (.slice (some ⟨wr.drew.heap.size, 0, none⟩) 1 1) L.length 1 xs [.int .i64 c, .slice ua j uc] rfl rfl ho.out (rd_two _ _ _ _) rfl (by simp [Value.oneCell']) hmx.out hbx.out (Nat.zero_le _) ?_
        intro v9 w9 hown9 hg9 hat9
        have hF := Lib.hid (fin.out wr.drew w9 w.heap.size _ v9 hA2.out hown9 hg9 hat9)
        obtain ⟨pc9, pz9⟩ := hpl.out _ w9 hb9.out hg9
        obtain ⟨kc9, ku9⟩ := hkp.out w9 hg9
        obtain ⟨a9, c9, e9, _⟩ := own_form hown9
        subst e9
        clear hown9 hg9 hat9
        refine hK.out _ _ ?_ ?_
        · (try dsimp only); exact ⟨pc9, kc9, ku9⟩
        clear hK K9 hHeld; intro hHeld
        try simp only [Act.put, nA]
        refine tk (i := 8) (oi := ⟨some 43, .nilCheck (.tmp 35), 0, "ref.go:31", #[⟨0, .data⟩, ⟨0, .phase⟩, ⟨1, .phase⟩, ⟨2, .phase⟩, ⟨3, .phase⟩, ⟨4, .phase⟩, ⟨5, .phase⟩, ⟨6, .phase⟩, ⟨7, .phase⟩], none⟩) (hy := by intro w hSw; (try dsimp only at hSw); obtain ⟨q0, q1, q2⟩ := hSw; go_simp <;> with_reducible rfl) ?_
        try simp only [Act.put, nA]
        refine tk (i := 9) (oi := ⟨some 44, .fieldAddr 47 (.tmp 43) 0, 0, "ref.go:31", #[⟨8, .data⟩, ⟨0, .phase⟩, ⟨1, .phase⟩, ⟨2, .phase⟩, ⟨3, .phase⟩, ⟨4, .phase⟩, ⟨5, .phase⟩, ⟨6, .phase⟩, ⟨7, .phase⟩], none⟩) (hy := by intro w hSw; (try dsimp only at hSw); obtain ⟨q0, q1, q2⟩ := hSw; go_simp <;> with_reducible rfl) ?_
        try simp only [Act.put, nA]
        refine last_step (o := ⟨none, .store 45 (.tmp 44) (.tmp 42), 0, "ref.go:31", #[⟨9, .data⟩, ⟨7, .data⟩, ⟨7, .chain⟩, ⟨0, .phase⟩, ⟨1, .phase⟩, ⟨2, .phase⟩, ⟨3, .phase⟩, ⟨4, .phase⟩, ⟨5, .phase⟩, ⟨6, .phase⟩, ⟨7, .phase⟩], none⟩) rfl (by kernel_rfl) (fun K hK => ?_)
        go_simp
        refine hK.out _ _ ?_
        clear hK K
        try simp only [Act.put, nA]

        go_wp2
        go_ret
        exact ⟨congrArg Ending.returned (congrArg (Value.int .i64) (by omega)), hF.out⟩
end
end Wd
end Go.Proofs.YteiejjmhmmkdhaaGreat
