/- A tape's method: what is known while it is written. -/
import Derived.Test.YthlijmdohejheaaKL
import Derived.Test.YthlijmdohejheaaKD
namespace Go.Proofs.Ythlijmdohejheaa
open Go.RowKit
set_option linter.unusedVariables false
set_option maxRecDepth 20000
namespace Wd
theorem pieceOk_len {l : List (Int × Int)} (h : pieceOk l) : l.length ≤ 5 := by
  unfold pieceOk at h
  rcases h with h | h | h | h | h | h | h | h | h | h | h | h | h | h | h | h | h | h
  · obtain ⟨_, _, rfl⟩ := h; simp
  · obtain ⟨_, _, rfl⟩ := h; simp
  · obtain ⟨_, _, _, _, rfl⟩ := h; simp
  · obtain ⟨_, _, _, _, _, _, rfl⟩ := h; simp
  · obtain ⟨_, _, _, _, rfl⟩ := h; simp
  · obtain ⟨_, _, _, _, rfl⟩ := h; simp
  · obtain ⟨_, _, _, _, _, _, _, _, rfl⟩ := h; simp
  · obtain ⟨_, _, _, _, rfl⟩ := h; simp
  · cases h; simp
  · obtain ⟨_, _, rfl⟩ := h; simp
  · obtain ⟨_, _, rfl⟩ := h; simp
  · obtain ⟨_, _, _, _, rfl⟩ := h; simp
  · obtain ⟨_, _, rfl⟩ := h; simp
  · obtain ⟨_, _, _, _, rfl⟩ := h; simp
  · obtain ⟨_, _, rfl⟩ := h; simp
  · obtain ⟨_, _, rfl⟩ := h; simp
  · obtain ⟨_, _, _, _, rfl⟩ := h; simp
  · obtain ⟨_, _, _, _, rfl⟩ := h; simp
theorem flat_len (l : List (Int × Int)) : (flat l).length = 2 * l.length := by
  unfold flat
  induction l with
  | nil => rfl
  | cons x l ih => simp only [List.flatMap_cons, List.length_append, List.length_cons, List.length_nil, ih]; omega
theorem flat_app (a b : List (Int × Int)) : flat (a ++ b) = flat a ++ flat b := by simp [flat]
/-- the instructions of a tape's method -/
structure codeOk (block : Bool) (I : List (Int × Int)) : Prop where
  mk ::
  ex : ∃ (P : List (List (Int × Int))) (S : List (Int × Int)) (q r l : Int), I = P.flatten ++ S ++ [(wr8 q, wr8 r), (wr8 l, wr8 0)] ∧ 1 ≤ P.length ∧ P.length ≤ 5 ∧ (∀ x ∈ P, pieceOk x) ∧ (S = [] ∨ S = [(wr8 3, wr8 0), (wr8 13, wr8 4)]) ∧ (q = 7 ∨ q = 3 ∨ q = 4 ∨ q = 0) ∧ (r = 0 ∨ r = 1) ∧ (l = 14 ∨ (block = true ∧ l = 19))
theorem flatten_len (P : List (List (Int × Int))) (h : ∀ x ∈ P, pieceOk x) : P.flatten.length ≤ 5 * P.length := by
  induction P with
  | nil => simp
  | cons x P ih =>
    have := ih (fun y hy => h y (by simp [hy]))
    have := pieceOk_len (h x (by simp))
    simp only [List.flatten_cons, List.length_append, List.length_cons]; omega
/-- while a method is written: its box lies at B, its code (as far as it is stored) is v3, as far as it is made v -/
structure Md (w0 w wr : World) (p n : Nat) (ad : Option Addr) (B : Nat) (args : Int) (lv : Value) (X : List (Int × Int)) (v3 v : Value) (C : List Int) : Prop where
  ks : Ks w0 wr p n ad
  cg : Cg (fun k => k = p) w wr
  s0 : w0.heap.size ≤ w.heap.size
  cd : wr.ownsRow w.heap.size 5 1 v C.length (bys C)
  lr : wr.ownsRow w.heap.size 41 2 lv 14 (pr2 X)
  c0 : wr.cell? ⟨B, 0, none⟩ = some (.int .i64 args)
  c1 : wr.cell? ⟨B, 1, none⟩ = some (.int .i64 2)
  c2 : wr.cell? ⟨B, 2, none⟩ = some lv
  c3 : wr.cell? ⟨B, 3, none⟩ = some v3
  z : ∀ j, wr.frozen? ⟨B, j, none⟩ = false
  bB : w.heap.size ≤ B
  nl : lv.ownBlock ≠ some B
  nv : v.ownBlock ≠ some B
  nn : ∀ k, lv.ownBlock = some k → v.ownBlock ≠ some k
section
variable {w0 w w1 w2 : World} {p n B : Nat} {ad : Option Addr} {args : Int} {lv v3 v v' : Value} {X : List (Int × Int)} {C C' : List Int}
theorem Md.lt (h : Md w0 w w1 p n ad B args lv X v3 v C) : B < w1.heap.size := World.block_lt_of_cell? w1 _ h.c0
theorem Md.np (h : Md w0 w w1 p n ad B args lv X v3 v C) : B ≠ p := by have := h.bB; have := h.s0; have := h.ks.p0; omega
/-- one of other blocks turns -/
theorem Md.far (h : Md w0 w w1 p n ad B args lv X v3 v C) (ks : Ks w0 w2 p n ad) (cg : Cg (fun k => k = p) w w2) (cd : w2.ownsRow w.heap.size 5 1 v' C'.length (bys C')) (hB : w2.heap[B]? = w1.heap[B]?) (hl : ∀ k, lv.ownBlock = some k → w2.heap[k]? = w1.heap[k]?) (nv : v'.ownBlock ≠ some B) (nn : ∀ k, lv.ownBlock = some k → v'.ownBlock ≠ some k) : Md w0 w w2 p n ad B args lv X v3 v' C' := by
  refine ⟨ks, cg, h.s0, cd, ?_, (World.cell?_of_block (a := ⟨B, 0, none⟩) hB).trans h.c0, (World.cell?_of_block (a := ⟨B, 1, none⟩) hB).trans h.c1, (World.cell?_of_block (a := ⟨B, 2, none⟩) hB).trans h.c2, (World.cell?_of_block (a := ⟨B, 3, none⟩) hB).trans h.c3, fun j => (World.frozen?_of_block (a := ⟨B, j, none⟩) hB).trans (h.z j), h.bB, h.nl, nv, nn⟩
  obtain ⟨h1, h2⟩ := h.lr
  refine ⟨h1, ?_⟩
  rcases h2 with hh | ⟨g, cap, cur, e1, e2, e3, e4⟩
  · exact Or.inl hh
  · exact Or.inr ⟨g, cap, cur, e1, e2, (hl g (by rw [e1]; rfl)).trans e3, e4⟩
theorem Md.next (h : Md w0 w w1 p n ad B args lv X v3 v C) (t : Tp w2 p ad n) (c : Cg (fun k => k = p) w1 w2) : Md w0 w w2 p n ad B args lv X v3 v C := by
  have hp : ∀ k, w.heap.size ≤ k → k < w1.heap.size → w2.heap[k]? = w1.heap[k]? := fun k h1 h2 => c.block k h2 (fun e => by have := h.s0; have := h.ks.p0; omega)
  refine h.far (h.ks.step t c) (h.cg.trans c) ?_ (hp B h.bB h.lt) (fun k hk => hp k (h.lr.lt k hk).1 (h.lr.lt k hk).2) h.nv h.nn
  exact row_cg h.cd c (fun k hk e => by have := (h.cd.lt k hk).1; have := h.s0; have := h.ks.p0; omega)
theorem Md.keep (h : Md w0 w w1 p n ad B args lv X v3 v C) (b : Below w1.heap.size w1 w2) : Md w0 w w2 p n ad B args lv X v3 v C :=
  h.far (h.ks.keep b) (h.cg.trans (Cg.below _ b)) (row_cg (F := fun _ => False) h.cd (Cg.below _ b) (fun _ _ hf => hf)) (b.block B h.lt) (fun k hk => b.block k (h.lr.lt k hk).2) h.nv h.nn
theorem Md.pc (h : Md w0 w w1 p n ad B args lv X v3 v C) : Pc w0 w1 w1 p n ad v v C :=
  Pc.start h.ks (by
    obtain ⟨h1, h2⟩ := h.cd
    refine ⟨h1, ?_⟩
    rcases h2 with hh | ⟨g, cap, cur, e1, e2, e3⟩
    · exact Or.inl hh
    · exact Or.inr ⟨g, cap, cur, e1, Nat.le_trans h.s0 e2, e3⟩)
theorem row_base {w : World} {b b' size len : Nat} {e : TypeId} {v : Value} {xs : List Value} (h : w.ownsRow b e size v len xs) (hb : ∀ k, v.ownBlock = some k → b' ≤ k) : w.ownsRow b' e size v len xs := by
  obtain ⟨h1, h2⟩ := h
  refine ⟨h1, ?_⟩
  rcases h2 with hh | ⟨g, cap, cur, e1, e2, e3⟩
  · exact Or.inl hh
  · exact Or.inr ⟨g, cap, cur, e1, hb g (by rw [e1]; rfl), e3⟩
theorem Md.code (h : Md w0 w w1 p n ad B args lv X v3 v C) (q : Pc w0 w1 w2 p n ad v v' C') : Md w0 w w2 p n ad B args lv X v3 v' C' := by
  have hb : ∀ k, v'.ownBlock = some k → v.ownBlock = some k ∨ w1.heap.size ≤ k := q.ob
  have hs := h.cg.size
  refine h.far q.ks (h.cg.trans' q.cg (fun k hk => ?_)) (row_base q.cd (fun k hk => ?_)) (q.cg.block B h.lt (fun e => ?_)) (fun k hk => q.cg.block k (h.lr.lt k hk).2 (fun e => ?_)) (fun e => ?_) (fun k hk e => ?_)
  · rcases hk with e | e
    · exact Or.inl e
    · exact Or.inr (h.cd.lt k e).1
  · rcases hb k hk with e | e
    · exact (h.cd.lt k e).1
    · omega
  · rcases e with e | e
    · exact h.np e
    · exact h.nv e
  · rcases e with e | e
    · have := (h.lr.lt k hk).1; have := h.s0; have := h.ks.p0; omega
    · exact h.nn k hk e
  · rcases hb B e with e | e
    · exact h.nv e
    · have := h.lt; omega
  · rcases hb k e with e | e
    · exact h.nn k hk e
    · have := (h.lr.lt k hk).2; omega
theorem Md.put (h : Md w0 w w1 p n ad B args lv X v3 v C) : Md w0 w (w1.setCell ⟨B, 3, none⟩ v) p n ad B args lv X v v C := by
  have hfar : ∀ k, k ≠ B → (w1.setCell ⟨B, 3, none⟩ v).heap[k]? = w1.heap[k]? := fun k hk => Below.heap_setCell _ _ _ _ hk
  have hr : ∀ {e : TypeId} {sz len : Nat} {u : Value} {xs : List Value}, w1.ownsRow w.heap.size e sz u len xs → u.ownBlock ≠ some B → (w1.setCell ⟨B, 3, none⟩ v).ownsRow w.heap.size e sz u len xs := by
    intro e sz len u xs ho hu
    obtain ⟨h1, h2⟩ := ho
    refine ⟨h1, ?_⟩
    rcases h2 with hh | ⟨g, cap, cur, e1, e2, e3, e4⟩
    · exact Or.inl hh
    · exact Or.inr ⟨g, cap, cur, e1, e2, (hfar g (fun e => hu (by rw [e1, ← e]; rfl))).trans e3, e4⟩
  have hc : ∀ j, j ≠ 3 → (w1.setCell ⟨B, 3, none⟩ v).cell? ⟨B, j, none⟩ = w1.cell? ⟨B, j, none⟩ := fun j hj => World.cell?_setCell_other _ _ _ _ (by intro e; injection e with _ h2; exact hj (by omega))
  have hsz : (w1.setCell ⟨B, 3, none⟩ v).heap.size = w1.heap.size := by simp
  refine ⟨h.ks.other (F := fun k => k = B) ((Cg.refl (fun k => k = B) w1).set ⟨B, 3, none⟩ rfl v) (fun k hk => by have := h.bB; have := h.s0; omega), h.cg.trans' ((Cg.refl (fun k => k = B) w1).set ⟨B, 3, none⟩ rfl v) (fun k hk => Or.inr (by have := h.bB; omega)), h.s0, hr h.cd h.nv, hr h.lr h.nl, (hc 0 (by decide)).trans h.c0, (hc 1 (by decide)).trans h.c1, (hc 2 (by decide)).trans h.c2, World.cell?_setCell_same _ _ _ h.c3, fun j => (World.frozen?_setCell _ _ _ _).trans (h.z j), h.bB, h.nl, h.nv, h.nn⟩
theorem Md.start {wA : World} (h : Rw w0 w w1 p n ad (.slice none 0 0) lv 41 2 14 (pr2 X)) (hA : wA = w1.alloc (.cells #[.int .i64 args, .int .i64 2, lv, .slice none 0 0] 37)) : Md w0 w wA p n ad w1.heap.size args lv X (.slice none 0 0) (.slice none 0 0) [] := by
  subst hA
  have hb := (Below.refl w1.heap.size w1).alloc (Nat.le_refl _) (.cells #[.int .i64 args, .int .i64 2, lv, .slice none 0 0] 37)
  have hn : (Value.slice none 0 0).ownBlock = none := rfl
  have hcg : Cg (fun k => k = p) w w1 := h.cg.mono (fun k hk => by
    rcases hk with e | e
    · exact e
    · rw [hn] at e; cases e)
  have hlv : ∀ k, lv.ownBlock = some k → w.heap.size ≤ k := fun k hk => by
    rcases h.ob k hk with e | e
    · rw [hn] at e; cases e
    · exact e
  have hlt : ∀ k, lv.ownBlock = some k → k < w1.heap.size := fun k hk => (h.cd.lt k hk).2
  refine ⟨h.ks.keep hb, hcg.trans (Cg.below _ hb), h.s0, World.ownsRow_nil _ _ _ _, row_base ((h.keep hb).cd) hlv, by simp, by simp, by simp, by simp, fun j => ?_, hcg.size, fun e => ?_, fun e => ?_, fun k hk e => ?_⟩
  · exact World.frozen?_alloc_new _ _ _ _
  · have := hlt _ e; omega
  · rw [hn] at e; cases e
  · rw [hn] at e; cases e
/-- a row behind the world w, kept -/
theorem Md.ret (h : Md w0 w w1 p n ad B args lv X v3 v C) {wb : World} (hw : Cg (fun k => k = p) wb w) (hs : wb.heap.size ≤ w.heap.size) : Ks w0 w1 p n ad ∧ Cg (fun k => k = p) wb w1 ∧ w1.ownsRow wb.heap.size 41 2 lv 14 (pr2 X) ∧ w1.ownsRow wb.heap.size 5 1 v C.length (bys C) :=
  ⟨h.ks, hw.trans h.cg, row_base h.lr (fun k hk => Nat.le_trans hs (h.lr.lt k hk).1), row_base h.cd (fun k hk => Nat.le_trans hs (h.cd.lt k hk).1)⟩
theorem cell_in {w : World} {q k : Nat} {C : Array Value} {T : TypeId} {v : Value} (h : w.heap[q]? = some (.cells C T (0, 0))) (hk : C[k]? = some v) : w.cell? ⟨q, k, none⟩ = some v := by
  simp [World.cell?, h, hk]
theorem loose_in {w : World} {q k : Nat} {C : Array Value} {T : TypeId} (h : w.heap[q]? = some (.cells C T (0, 0))) : w.frozen? ⟨q, k, none⟩ = false := by
  simp [World.frozen?, h]
/-- four cells are written -/
abbrev set4 (w : World) (q : Nat) (v0 v1 v2 v3 : Value) : World := (((w.setCell ⟨q, 0, none⟩ v0).setCell ⟨q, 1, none⟩ v1).setCell ⟨q, 2, none⟩ v2).setCell ⟨q, 3, none⟩ v3
theorem set4_far (w : World) (q k : Nat) (v0 v1 v2 v3 : Value) (hk : k ≠ q) : (set4 w q v0 v1 v2 v3).heap[k]? = w.heap[k]? := by
  unfold set4
  rw [Below.heap_setCell _ _ _ _ hk, Below.heap_setCell _ _ _ _ hk, Below.heap_setCell _ _ _ _ hk, Below.heap_setCell _ _ _ _ hk]
theorem set4_at {w : World} {q : Nat} {v0 v1 v2 v3 u0 u1 u2 u3 : Value} (c0 : w.cell? ⟨q, 0, none⟩ = some u0) (c1 : w.cell? ⟨q, 1, none⟩ = some u1) (c2 : w.cell? ⟨q, 2, none⟩ = some u2) (c3 : w.cell? ⟨q, 3, none⟩ = some u3) : (set4 w q v0 v1 v2 v3).cell? ⟨q, 0, none⟩ = some v0 ∧ (set4 w q v0 v1 v2 v3).cell? ⟨q, 1, none⟩ = some v1 ∧ (set4 w q v0 v1 v2 v3).cell? ⟨q, 2, none⟩ = some v2 ∧ (set4 w q v0 v1 v2 v3).cell? ⟨q, 3, none⟩ = some v3 := by
  have far : ∀ {w : World} {i j : Nat} {v : Value}, i ≠ j → (w.setCell ⟨q, i, none⟩ v).cell? ⟨q, j, none⟩ = w.cell? ⟨q, j, none⟩ := fun hij => World.cell?_setCell_other _ _ _ _ (by intro e; injection e with _ h2; omega)
  unfold set4
  refine ⟨?_, ?_, ?_, ?_⟩
  · rw [far (by decide), far (by decide), far (by decide)]; exact World.cell?_setCell_same _ _ _ c0
  · rw [far (by decide), far (by decide)]; exact World.cell?_setCell_same _ _ _ ((far (by decide)).trans c1)
  · rw [far (by decide)]; exact World.cell?_setCell_same _ _ _ ((far (by decide)).trans ((far (by decide)).trans c2))
  · exact World.cell?_setCell_same _ _ _ ((far (by decide)).trans ((far (by decide)).trans ((far (by decide)).trans c3)))
theorem Md.fin (h : Md w0 w w1 p n ad B args lv X v3 v C) {wb : World} (hw : Cg (fun k => k = p) wb w) (hs : w0.heap.size ≤ wb.heap.size) (hB0 : wb.heap.size < w.heap.size) (u0 u1 u2 u3 : Value) : Ks w0 (set4 w1 wb.heap.size u0 u1 u2 u3) p n ad ∧ Cg (fun k => k = p) wb (set4 w1 wb.heap.size u0 u1 u2 u3) ∧ (set4 w1 wb.heap.size u0 u1 u2 u3).ownsRow wb.heap.size 41 2 lv 14 (pr2 X) ∧ (set4 w1 wb.heap.size u0 u1 u2 u3).ownsRow wb.heap.size 5 1 v C.length (bys C) := by
  have hfar := fun k (hk : k ≠ wb.heap.size) => set4_far w1 wb.heap.size k u0 u1 u2 u3 hk
  have hg : Cg (fun k => k = wb.heap.size) w1 (set4 w1 wb.heap.size u0 u1 u2 u3) := ⟨rfl, rfl, rfl, by simp [set4], fun k _ hk => hfar k hk⟩
  have hr : ∀ {e : TypeId} {sz len : Nat} {u : Value} {xs : List Value}, w1.ownsRow w.heap.size e sz u len xs → (set4 w1 wb.heap.size u0 u1 u2 u3).ownsRow wb.heap.size e sz u len xs := by
    intro e sz len u xs ho
    obtain ⟨h1, h2⟩ := ho
    refine ⟨h1, ?_⟩
    rcases h2 with hh | ⟨g, cap, cur, e1, e2, e3, e4⟩
    · exact Or.inl hh
    · exact Or.inr ⟨g, cap, cur, e1, by omega, (hfar g (by omega)).trans e3, e4⟩
  exact ⟨h.ks.other hg (fun k hk => by omega), (hw.trans h.cg).trans' hg (fun k hk => Or.inr (by omega)), hr h.lr, hr h.cd⟩
/-- a list of four numbers -/
def sel4 (j : Nat) : Int := [7, 3, 4, 0].getD j 0
theorem sel4_or (j : Nat) (hj : j < 4) : sel4 j = 7 ∨ sel4 j = 3 ∨ sel4 j = 4 ∨ sel4 j = 0 := by
  rcases (show j = 0 ∨ j = 1 ∨ j = 2 ∨ j = 3 by omega) with rfl | rfl | rfl | rfl <;> simp [sel4]
theorem born4 (w : World) {j : Nat} (hj : j < 4) : (w.alloc (.cells #[.int .i64 7, .int .i64 3, .int .i64 4, .int .i64 0] 3)).cell? ⟨w.heap.size, j, none⟩ = some (.int .i64 (sel4 j)) := by
  rcases (show j = 0 ∨ j = 1 ∨ j = 2 ∨ j = 3 by omega) with rfl | rfl | rfl | rfl <;> simp [sel4]
theorem arr4 {j : Nat} (hj : j < 4) : (#[Value.int .i64 7, Value.int .i64 3, Value.int .i64 4, Value.int .i64 0] : Array Value)[j]? = some (.int .i64 (sel4 j)) := by
  rcases (show j = 0 ∨ j = 1 ∨ j = 2 ∨ j = 3 by omega) with rfl | rfl | rfl | rfl <;> simp [sel4]
theorem lst4 {j : Nat} (hj : j < 4) : ([Value.int .i64 7, Value.int .i64 3, Value.int .i64 4, Value.int .i64 0] : List Value)[j]? = some (.int .i64 (sel4 j)) := by
  rcases (show j = 0 ∨ j = 1 ∨ j = 2 ∨ j = 3 by omega) with rfl | rfl | rfl | rfl <;> simp [sel4]
/-- the list lies beside it -/
structure Me (w0 w wr : World) (p n : Nat) (ad : Option Addr) (B : Nat) (args : Int) (lv : Value) (X : List (Int × Int)) (v3 v : Value) (C : List Int) (Bq : Nat) : Prop where
  md : Md w0 w wr p n ad B args lv X v3 v C
  q : ∀ j : Nat, j < 4 → wr.cell? ⟨Bq, j, none⟩ = some (.int .i64 (sel4 j))
  qp : Bq ≠ p
section
variable {wX : World} {Bq : Nat}
theorem Me.lt (h : Me w0 w w1 p n ad B args lv X v3 v C Bq) : Bq < w1.heap.size := World.block_lt_of_cell? w1 _ (h.q 0 (by omega))
theorem Me.keep (h : Me w0 w w1 p n ad B args lv X v3 v C Bq) (b : Below w1.heap.size w1 w2) : Me w0 w w2 p n ad B args lv X v3 v C Bq :=
  ⟨h.md.keep b, fun j hj => (World.cell?_of_block (a := ⟨Bq, j, none⟩) (b.block Bq h.lt)).trans (h.q j hj), h.qp⟩
theorem Me.next (h : Me w0 w w1 p n ad B args lv X v3 v C Bq) (t : Tp w2 p ad n) (c : Cg (fun k => k = p) w1 w2) : Me w0 w w2 p n ad B args lv X v3 v C Bq :=
  ⟨h.md.next t c, fun j hj => (World.cell?_of_block (a := ⟨Bq, j, none⟩) (c.block Bq h.lt h.qp)).trans (h.q j hj), h.qp⟩
theorem Me.born (h : Md w0 w w1 p n ad B args lv X v3 v C) (hX : wX = w1.alloc (.cells #[.int .i64 7, .int .i64 3, .int .i64 4, .int .i64 0] 3) ∨ wX = (w1.alloc (.cells #[.int .i64 7, .int .i64 3, .int .i64 4, .int .i64 0] 3)).drew) : Me w0 w wX p n ad B args lv X v3 v C w1.heap.size := by
  have h1 : Me w0 w (w1.alloc (.cells #[.int .i64 7, .int .i64 3, .int .i64 4, .int .i64 0] 3)) p n ad B args lv X v3 v C w1.heap.size :=
    ⟨h.keep ((Below.refl _ _).alloc (Nat.le_refl _) _), fun j hj => born4 _ hj, fun e => by have := h.ks.p0; have := h.ks.cg.size; omega⟩
  rcases hX with rfl | rfl
  · exact h1
  · exact h1.keep (Below.refl _ _).drew
theorem m4_a (h : Hid (Md w0 w w1 p n ad B args lv X v3 v C)) (hb : Below w1.heap.size w1 wX) : Calls Try.prog 20 #[.pointer (some ⟨p, 0, none⟩), .int .i64 4] wX fun e w' => ∃ j : Nat, e = .returned (.int .i64 (j : Int)) ∧ j < 4 ∧ Hid (Md w0 w w' p n ad B args lv X v3 v C) := by
  have h1 := h.out.keep hb
  refine (next_c 4 (by omega) (by omega) h1.ks.tp).mono ?_
  rintro e w' ⟨x, he, hx, t, c⟩
  have ex : x = ((x.toNat : Nat) : Int) := by omega
  exact ⟨x.toNat, by rw [← ex]; exact he, by omega, Lib.hid (h1.next t c)⟩
theorem m4_d (h : Hid (Me w0 w w1 p n ad B args lv X v3 v C Bq)) (hb : Below w1.heap.size w1 wX) : Calls Try.prog 20 #[.pointer (some ⟨p, 0, none⟩), .int .i64 4] wX fun e w' => ∃ j : Nat, e = .returned (.int .i64 (j : Int)) ∧ j < 4 ∧ Hid (Me w0 w w' p n ad B args lv X v3 v C Bq) := by
  have h1 := h.out.keep hb
  refine (next_c 4 (by omega) (by omega) h1.md.ks.tp).mono ?_
  rintro e w' ⟨x, he, hx, t, c⟩
  have ex : x = ((x.toNat : Nat) : Int) := by omega
  exact ⟨x.toNat, by rw [← ex]; exact he, by omega, Lib.hid (h1.next t c)⟩
theorem m4_b (h : Hid (Md w0 w w1 p n ad B args lv X v3 v C)) (hX : wX = w1.alloc (.cells #[.int .i64 7, .int .i64 3, .int .i64 4, .int .i64 0] 3) ∨ wX = (w1.alloc (.cells #[.int .i64 7, .int .i64 3, .int .i64 4, .int .i64 0] 3)).drew) : Calls Try.prog 20 #[.pointer (some ⟨p, 0, none⟩), .int .i64 4] wX fun e w' => ∃ j : Nat, e = .returned (.int .i64 (j : Int)) ∧ j < 4 ∧ Hid (Me w0 w w' p n ad B args lv X v3 v C w1.heap.size) :=
  m4_d (Lib.hid (Me.born h.out hX)) (Below.refl _ _)
theorem m2_a (h : Hid (Md w0 w w1 p n ad B args lv X v3 v C)) (hb : Below w1.heap.size w1 wX) : Calls Try.prog 20 #[.pointer (some ⟨p, 0, none⟩), .int .i64 2] wX fun e w' => ∃ r : Int, e = .returned (.int .i64 r) ∧ (0 ≤ r ∧ r < 2) ∧ Hid (Md w0 w w' p n ad B args lv X v3 v C) := by
  have h1 := h.out.keep hb
  refine (next_c 2 (by omega) (by omega) h1.ks.tp).mono ?_
  rintro e w' ⟨x, he, hx, t, c⟩
  exact ⟨x, he, hx, Lib.hid (h1.next t c)⟩
theorem m2_d (h : Hid (Me w0 w w1 p n ad B args lv X v3 v C Bq)) (hb : Below w1.heap.size w1 wX) : Calls Try.prog 20 #[.pointer (some ⟨p, 0, none⟩), .int .i64 2] wX fun e w' => ∃ r : Int, e = .returned (.int .i64 r) ∧ (0 ≤ r ∧ r < 2) ∧ Hid (Me w0 w w' p n ad B args lv X v3 v C Bq) := by
  have h1 := h.out.keep hb
  refine (next_c 2 (by omega) (by omega) h1.md.ks.tp).mono ?_
  rintro e w' ⟨x, he, hx, t, c⟩
  exact ⟨x, he, hx, Lib.hid (h1.next t c)⟩
theorem m2_b (h : Hid (Md w0 w w1 p n ad B args lv X v3 v C)) (hX : wX = w1.alloc (.cells #[.int .i64 7, .int .i64 3, .int .i64 4, .int .i64 0] 3) ∨ wX = (w1.alloc (.cells #[.int .i64 7, .int .i64 3, .int .i64 4, .int .i64 0] 3)).drew) : Calls Try.prog 20 #[.pointer (some ⟨p, 0, none⟩), .int .i64 2] wX fun e w' => ∃ r : Int, e = .returned (.int .i64 r) ∧ (0 ≤ r ∧ r < 2) ∧ Hid (Me w0 w w' p n ad B args lv X v3 v C w1.heap.size) :=
  m2_d (Lib.hid (Me.born h.out hX)) (Below.refl _ _)
theorem mo_a (h : Hid (Md w0 w w1 p n ad B args lv X v3 v C)) (hb : Below w1.heap.size w1 wX) (hl : C.length ≤ 100000) (o a : Int) :
    Calls Try.prog 33 #[v, .int .i64 o, .int .i64 a] wX fun e w' => ∃ a' m' c', e = .returned (.slice a' m' c') ∧ Hid (Md w0 w w' p n ad B args lv X v3 (.slice a' m' c') (C ++ [wr8 o, wr8 a])) := by
  have h1 := h.out.keep hb
  refine (op_c h1.pc hl o a).mono ?_
  rintro e w' ⟨v', he, hpc⟩
  obtain ⟨a', c', rfl⟩ := row_shape hpc.cd
  exact ⟨_, _, _, he, Lib.hid (h1.code hpc)⟩
theorem mo_d (h : Hid (Me w0 w w1 p n ad B args lv X v3 v C Bq)) (hb : Below w1.heap.size w1 wX) (hl : C.length ≤ 100000) (o a : Int) :
    Calls Try.prog 33 #[v, .int .i64 o, .int .i64 a] wX fun e w' => ∃ a' m' c', e = .returned (.slice a' m' c') ∧ Hid (Md w0 w w' p n ad B args lv X v3 (.slice a' m' c') (C ++ [wr8 o, wr8 a])) :=
  mo_a (Lib.hid h.out.md) hb hl o a
theorem Md.c3a (h : Md w0 w w1 p n ad B args lv X v3 v C) : (w1.alloc (.cells #[.int .i64 7, .int .i64 3, .int .i64 4, .int .i64 0] 3)).cell? ⟨B, 3, none⟩ = some v3 := (h.keep ((Below.refl _ _).alloc (Nat.le_refl _) _)).c3
end
end
end Wd
end Go.Proofs.Ythlijmdohejheaa
