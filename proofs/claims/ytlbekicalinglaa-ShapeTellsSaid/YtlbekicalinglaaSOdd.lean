/- Classes with one thing turned. -/
import Derived.Test.YtlbekicalinglaaSApp
import Derived.Deep.DeepCutAuto
import Derived.Deep.CutBlock
namespace Go.Proofs.Ytlbekicalinglaa
open Go.RowKit
set_option linter.unusedVariables false
set_option maxRecDepth 20000
namespace Wd
theorem and3 (n : Int) : bits .and .i64 n 3 = n % 4 := by
  have h127 : (BitVec.ofInt 64 3).toNat = 2 ^ 2 - 1 := by decide
  have key : (BitVec.ofInt 64 n &&& BitVec.ofInt 64 3).toNat = (n % ((2 ^ 64 : Nat) : Int)).toNat % 2 ^ 2 := by
    rw [BitVec.toNat_and, BitVec.toNat_ofInt, h127, Nat.and_two_pow_sub_one_eq_mod]
  show IntKind.i64.wrap ((BitVec.ofInt 64 n &&& BitVec.ofInt 64 3).toNat : Nat) = n % 4
  rw [key, IntKind.wrap_i64]
  omega
theorem and31 (n : Int) : bits .and .i64 n 31 = n % 32 := by
  have h127 : (BitVec.ofInt 64 31).toNat = 2 ^ 5 - 1 := by decide
  have key : (BitVec.ofInt 64 n &&& BitVec.ofInt 64 31).toNat = (n % ((2 ^ 64 : Nat) : Int)).toNat % 2 ^ 5 := by
    rw [BitVec.toNat_and, BitVec.toNat_ofInt, h127, Nat.and_two_pow_sub_one_eq_mod]
  show IntKind.i64.wrap ((BitVec.ofInt 64 n &&& BitVec.ofInt 64 31).toNat : Nat) = n % 32
  rw [key, IntKind.wrap_i64]
  omega
theorem cl4s_up : ∀ (T : List (ClassA × Value)) (c : Nat) (x : ClassA × Value), T[c]? = some x → ∀ (nm : ByteArray) (s f : Int), cl4s (T.set c (⟨nm, x.1.super, x.1.fields, x.1.binds⟩, x.2)) = (cl4s T).set (c * 4) (.string nm) ∧ cl4s (T.set c (⟨x.1.nm, s, x.1.fields, x.1.binds⟩, x.2)) = (cl4s T).set (c * 4 + 1) (.int .i64 s) ∧ cl4s (T.set c (⟨x.1.nm, x.1.super, f, x.1.binds⟩, x.2)) = (cl4s T).set (c * 4 + 2) (.int .i64 f)
  | [], c, x, h, _, _, _ => by simp at h
  | s :: T, 0, x, h, _, _, _ => by simp at h; subst h; simp [cl4s, cl4]
  | s :: T, c + 1, x, h, nm, s', f => by
    obtain ⟨a, b, d⟩ := cl4s_up T c x (by simpa using h) nm s' f
    simp only [List.set_cons_succ, cl4s, a, b, d]
    refine ⟨?_, ?_, ?_⟩
    · rw [show (c + 1) * 4 = 4 + c * 4 by omega, List.set_append_right _ _ (by simp [cl4])]; simp [cl4]
    · rw [show (c + 1) * 4 + 1 = 4 + (c * 4 + 1) by omega, List.set_append_right _ _ (by simp [cl4])]; simp [cl4]
    · rw [show (c + 1) * 4 + 2 = 4 + (c * 4 + 2) by omega, List.set_append_right _ _ (by simp [cl4])]; simp [cl4]
theorem pr2_set0 : ∀ (B : List (Int × Int)) (c : Nat) (x : Int × Int), B[c]? = some x → ∀ (s : Int), pr2 (B.set c (s, x.2)) = (pr2 B).set (c * 2) (.int .i64 s)
  | [], c, x, h, _ => by simp at h
  | s :: T, 0, x, h, _ => by simp at h; subst h; simp [pr2]
  | s :: T, c + 1, x, h, s' => by
    have := pr2_set0 T c x (by simpa using h) s'
    rw [List.set_cons_succ, show (c + 1) * 2 = c * 2 + 2 by omega]
    simp [pr2, this]
theorem pr2_rep (n : Nat) : pr2 (List.replicate n (0, 0)) = List.replicate (n * 2) (.int .i64 0) := by
  induction n with
  | zero => rfl
  | succ n ih => rw [List.replicate_succ, pr2, ih, show (n + 1) * 2 = n * 2 + 1 + 1 by omega, List.replicate_succ, List.replicate_succ]
theorem made_two (n : Nat) : (madeCells #[.int .i64 0, .int .i64 0] n).toList = List.replicate n (.int .i64 0) := by
  apply List.ext_getElem?
  intro j
  by_cases hj : j < n
  · rcases (show j % 2 = 0 ∨ j % 2 = 1 by omega) with e | e <;> simp [madeCells, hj, e]
  · simp [madeCells, hj]
/-- a copy that may be turned -/
structure Od (w wr : World) (v : Value) (n b : Nat) (T : List (ClassA × Value)) : Prop where
  own : wr.ownsRow w.heap.size 38 4 v n (cl4s T)
  len : n = T.length
  vw : ∀ x ∈ T, In64 x.1.super ∧ In64 x.1.fields ∧ PrV wr x.2 x.1.binds
  bn : ∀ x ∈ T, x.1.binds.length ≤ b
  ap : ∀ x ∈ T, 0 < x.1.binds.length → ∀ k, x.2.ownBlock = some k → v.ownBlock ≠ some k
  bel : Below w.heap.size w wr
theorem PrV.far {w w1 : World} {v : Value} {L : List (Int × Int)} {F : Nat → Prop} (h : PrV w v L) (c : Cg F w w1) (hF : 0 < L.length → ∀ k, v.ownBlock = some k → ¬ F k) : PrV w1 v L := by
  obtain ⟨ad, cap, rfl, h1, h2, h3⟩ := h.ex
  refine ⟨ad, cap, rfl, h1, h2, fun k x hx => ?_⟩
  obtain ⟨i1, i2, g, off, e, c0, c1⟩ := h3 k x hx
  have hg : ¬ F g := hF (by have := (List.getElem?_eq_some_iff.1 hx).1; omega) g (by rw [e]; rfl)
  exact ⟨i1, i2, g, off, e, (World.cell?_of_block (a := ⟨g, off + k * 2, none⟩) (c.block g (World.block_lt_of_cell? w _ c0) hg)).trans c0, (World.cell?_of_block (a := ⟨g, off + k * 2 + 1, none⟩) (c.block g (World.block_lt_of_cell? w _ c1) hg)).trans c1⟩
section
variable {w w1 w2 : World} {v : Value} {n b g c : Nat} {T : List (ClassA × Value)}
theorem Od.fin (h : Od w w1 v n b T) : ClV w1 v (T.map (·.1)) := ClV.own (by have := h.own; rw [h.len] at this; exact this) h.vw
theorem Od.keep (h : Od w w1 v n b T) (bl : Below w1.heap.size w1 w2) : Od w w2 v n b T :=
  ⟨row_bel h.own bl, h.len, fun x hx => by obtain ⟨a, d, e⟩ := h.vw x hx; exact ⟨a, d, e.up bl⟩, h.bn, h.ap, h.bel.trans (bl.mono h.bel.size)⟩
theorem Od.store (h : Od w w1 (.slice (some ⟨g, 0, none⟩) n c) n b T) {k j : Nat} {y : ClassA × Value} {u : Value} (hk : k < T.length) (hc : cl4s (T.set k y) = (cl4s T).set (k * 4 + j) u) (y0 : In64 y.1.super) (y1 : In64 y.1.fields) (y2 : PrV w1 y.2 y.1.binds) (y3 : y.1.binds.length ≤ b) (y4 : 0 < y.1.binds.length → y.2.ownBlock ≠ some g) : Od w (w1.setCell ⟨g, k * 4 + j, none⟩ u) (.slice (some ⟨g, 0, none⟩) n c) n b (T.set k y) := by
  have hg : w.heap.size ≤ g := (h.own.lt g rfl).1
  have hset : Cg (fun b => b = g) w1 (w1.setCell ⟨g, k * 4 + j, none⟩ u) := (Cg.refl (fun b => b = g) w1).set ⟨g, k * 4 + j, none⟩ rfl u
  have hall : ∀ x ∈ T.set k y, In64 x.1.super ∧ In64 x.1.fields ∧ PrV w1 x.2 x.1.binds ∧ x.1.binds.length ≤ b ∧ (0 < x.1.binds.length → x.2.ownBlock ≠ some g) := fun x hx => by
    rcases List.mem_or_eq_of_mem_set hx with hx | rfl
    · obtain ⟨a, d, e⟩ := h.vw x hx
      exact ⟨a, d, e, h.bn x hx, fun hl e1 => h.ap x hx hl g e1 rfl⟩
    · exact ⟨y0, y1, y2, y3, y4⟩
  refine ⟨by rw [hc]; exact (h.own.stored _ _).1, by simp [h.len], fun x hx => ?_, fun x hx => (hall x hx).2.2.2.1, fun x hx hl q e1 e2 => ?_, h.bel.setCell hg _⟩
  · obtain ⟨a, d, e, _, f⟩ := hall x hx
    exact ⟨a, d, e.far hset (fun hl q e1 e2 => f hl (by rw [e1, e2]))⟩
  · have : g = q := by simpa [Value.ownBlock] using e2
    subst this
    exact (hall x hx).2.2.2.2 hl e1
end
section
theorem Od.start {w w1 w2 : World} {v : Value} {m b : Nat} {T : List (ClassA × Value)} (hA : Below w.heap.size w w1) (ho : w2.ownsRow w.heap.size 38 4 v m (cl4s T)) {r : Option Nat} (hg : w1.grownBy w2 r) (hr : ∀ k, r = some k → w.heap.size ≤ k) (hl : T.length = m) (hT : ∀ x ∈ T, In64 x.1.super ∧ In64 x.1.fields ∧ PrV w x.2 x.1.binds) (hTb : ∀ x ∈ T, x.1.binds.length ≤ b) (hlt : ∀ x ∈ T, ∀ k, x.2.ownBlock = some k → 0 < x.1.binds.length → k < w.heap.size) : Od w w2 v m b T := by
  have hb := hA.grown hg hA.size hr
  exact ⟨ho, hl.symm, fun x hx => by obtain ⟨a, d, e⟩ := hT x hx; exact ⟨a, d, e.up hb⟩, hTb, fun x hx hp k e1 e2 => by have := hlt x hx k e1 hp; have := (ho.lt k e2).1; omega, hb⟩
end
/-- the four names -/
def nm4 (j : Nat) : ByteArray := [(⟨#[]⟩ : ByteArray), ⟨#[65]⟩, ⟨#[115, 105, 120, 116, 101, 101, 110, 95, 108, 101, 116, 116, 101, 114, 115, 95]⟩, ⟨#[115, 101, 118, 101, 110, 116, 101, 101, 110, 95, 108, 101, 116, 116, 101, 114, 115]⟩].getD j ⟨#[]⟩
theorem born_nm (w : World) {j : Nat} (hj : j < 4) : (w.alloc (.cells #[.string ⟨#[]⟩, .string ⟨#[65]⟩, .string ⟨#[115, 105, 120, 116, 101, 101, 110, 95, 108, 101, 116, 116, 101, 114, 115, 95]⟩, .string ⟨#[115, 101, 118, 101, 110, 116, 101, 101, 110, 95, 108, 101, 116, 116, 101, 114, 115]⟩] 9)).cell? ⟨w.heap.size, j, none⟩ = some (.string (nm4 j)) := by
  rcases (show j = 0 ∨ j = 1 ∨ j = 2 ∨ j = 3 by omega) with rfl | rfl | rfl | rfl <;> simp [nm4]
theorem Od.done {w w1 : World} {v : Value} {n b b' m : Nat} {T : List (ClassA × Value)} (h : Od w w1 v n b T) (hn : n ≤ m) (hb : b ≤ b') : ∃ L', ClV w1 v L' ∧ L'.length ≤ m ∧ (∀ c ∈ L', c.binds.length ≤ b') ∧ Below w.heap.size w w1 :=
  ⟨_, h.fin, by simp; have := h.len; omega, fun c hc => by obtain ⟨x, hx, rfl⟩ := List.mem_map.1 hc; exact Nat.le_trans (h.bn x hx) hb, h.bel⟩
theorem Od.more {w w1 : World} {v : Value} {n b b' : Nat} {T : List (ClassA × Value)} (h : Od w w1 v n b T) (hb : b ≤ b') : Od w w1 v n b' T := ⟨h.own, h.len, h.vw, fun x hx => Nat.le_trans (h.bn x hx) hb, h.ap, h.bel⟩
theorem PrV.blk {w : World} {v : Value} {L : List (Int × Int)} (h : PrV w v L) (hl : 0 < L.length) {k : Nat} (hk : v.ownBlock = some k) : k < w.heap.size := by
  obtain ⟨ad', cap', e1, _, _, h3⟩ := h.ex
  obtain ⟨y, hy⟩ : ∃ y, L[0]? = some y := ⟨L[0], by simp⟩
  obtain ⟨_, _, g, off, e2, c0, _⟩ := h3 0 y hy
  have : g = k := by rw [e1, e2] at hk; simpa [Value.ownBlock] using hk
  rw [← this]
  exact World.block_lt_of_cell? w _ c0
theorem Od.push {w w1 wA w2 : World} {v v' : Value} {n b : Nat} {T : List (ClassA × Value)} {c : ClassA} (h : Od w w1 v n b T) (hA : Below w1.heap.size w1 wA) (ho : w2.ownsRow w.heap.size 38 4 v' (n + 1) (cl4s T ++ cl4 c (.slice none 0 0))) (hg : wA.grownBy w2 v.ownBlock) (hat : ∀ k, v'.ownBlock = some k → v.ownBlock = some k ∨ k = wA.heap.size) (c0 : In64 c.super) (c1 : In64 c.fields) (c2 : c.binds = []) : Od w w2 v' (n + 1) b (T ++ [(c, .slice none 0 0)]) := by
  have hc : Cg (fun k => v.ownBlock = some k) w1 w2 := (Cg.below _ hA).grown hg (fun k e => Or.inl e)
  have hs := hA.size
  refine ⟨by rw [cl4s_app]; simpa [cl4s] using ho, by simp [h.len], fun x hx => ?_, fun x hx => ?_, fun x hx hl k e1 e2 => ?_, ?_⟩
  · rcases List.mem_append.1 hx with hx | hx
    · obtain ⟨a, d, e⟩ := h.vw x hx
      exact ⟨a, d, e.far hc (fun hl k e1 e2 => h.ap x hx hl k e1 e2)⟩
    · rw [List.mem_singleton.1 hx]
      exact ⟨c0, c1, by rw [c2]; exact PrV.nil _⟩
  · rcases List.mem_append.1 hx with hx | hx
    · exact h.bn x hx
    · rw [List.mem_singleton.1 hx]; simp [c2]
  · rcases List.mem_append.1 hx with hx | hx
    · rcases hat k e2 with e | e
      · exact h.ap x hx hl k e1 e
      · have := ((h.vw x hx).2.2).blk hl e1; omega
    · rw [List.mem_singleton.1 hx] at e1
      cases e1
  · exact (h.bel.trans (hA.mono h.bel.size)).grown hg (Nat.le_trans h.bel.size hs) (fun k e => (h.own.lt k e).1)
theorem Od.turn {w w1 w2 : World} {v : Value} {n b k gb : Nat} {T : List (ClassA × Value)} {nm : ByteArray} {s f : Int} {B B' : List (Int × Int)} {bv : Value} (h : Od w w1 v n b (T.set k (⟨nm, s, f, B⟩, bv))) (hk : k < T.length) (c : Cg (fun q => q = gb) w1 w2) (hgb : w.heap.size ≤ gb) (hv : v.ownBlock ≠ some gb) (hl : B'.length = B.length) (hp : PrV w2 bv B') (ho : ∀ x ∈ T, 0 < x.1.binds.length → x.2.ownBlock ≠ some gb) : Od w w2 v n b (T.set k (⟨nm, s, f, B'⟩, bv)) := by
  have hkk : ∀ (C : List (Int × Int)), (T.set k ((⟨nm, s, f, C⟩ : ClassA), bv))[k]? = some (⟨nm, s, f, C⟩, bv) := fun C => List.getElem?_set_self hk
  have e0 : ∀ (C : List (Int × Int)), cl4s (T.set k ((⟨nm, s, f, C⟩ : ClassA), bv)) = cl4s (T.set k ((⟨nm, s, f, B⟩ : ClassA), bv)) := by
    intro C
    obtain ⟨x, hx⟩ : ∃ x, T[k]? = some x := ⟨T[k], by simp⟩
    have key : ∀ (T : List (ClassA × Value)) (k : Nat), cl4s (T.set k ((⟨nm, s, f, C⟩ : ClassA), bv)) = cl4s (T.set k ((⟨nm, s, f, B⟩ : ClassA), bv)) := by
      intro T
      induction T with
      | nil => intro k; simp
      | cons a T ih =>
        intro k
        cases k with
        | zero => simp [cl4s, cl4]
        | succ k => simp only [List.set_cons_succ, cl4s, ih k]
    exact key T k
  have hmem : ∀ x ∈ T.set k ((⟨nm, s, f, B'⟩ : ClassA), bv), x = (⟨nm, s, f, B'⟩, bv) ∨ (x ∈ T ∧ x ∈ T.set k ((⟨nm, s, f, B⟩ : ClassA), bv)) := by
    intro x hx
    obtain ⟨j, hj⟩ := List.getElem?_of_mem hx
    by_cases hkj : k = j
    · subst hkj
      rw [hkk] at hj
      exact Or.inl (Option.some.inj hj).symm
    · rw [List.getElem?_set_ne hkj] at hj
      exact Or.inr ⟨List.mem_of_getElem? hj, List.mem_of_getElem? (by rw [List.getElem?_set_ne hkj]; exact hj)⟩
  have hB := h.vw _ (List.mem_of_getElem? (hkk B))
  have hBn := h.bn _ (List.mem_of_getElem? (hkk B))
  have hBa := h.ap _ (List.mem_of_getElem? (hkk B))
  refine ⟨by rw [e0 B']; exact row_cg h.own c (fun q e1 e2 => hv (by rw [e1, e2])), by simp [h.len], fun x hx => ?_, fun x hx => ?_, fun x hx hp q e1 => ?_, ⟨c.os.trans h.bel.os, c.tape.trans h.bel.tape, c.output.trans h.bel.output, Nat.le_trans h.bel.size c.size, fun q hq => (c.block q (Nat.lt_of_lt_of_le hq h.bel.size) (fun e => by omega)).trans (h.bel.block q hq)⟩⟩
  · rcases hmem x hx with rfl | ⟨hx1, hx2⟩
    · exact ⟨hB.1, hB.2.1, hp⟩
    · obtain ⟨a, d, e⟩ := h.vw x hx2
      exact ⟨a, d, e.far c (fun hl q e1 e2 => ho x hx1 hl (by rw [e1, e2]))⟩
  · rcases hmem x hx with rfl | ⟨hx1, hx2⟩
    · simp only; rw [hl]; exact hBn
    · exact h.bn x hx2
  · rcases hmem x hx with rfl | ⟨hx1, hx2⟩
    · exact hBa (by simp only at hp ⊢; omega) q e1
    · exact h.ap x hx2 hp q e1
theorem Od.bind {w w1 w3 wA w4 : World} {g m c1 b k bl : Nat} {T : List (ClassA × Value)} {cx : ClassA} {bv v3 v4 : Value} {p : Int × Int} (hO : Od w w1 (.slice (some ⟨g, 0, none⟩) m c1) m b T) (hx : T[k]? = some (cx, bv)) (hp : In64 p.1 ∧ In64 p.2) (hb64 : ∀ x ∈ cx.binds, In64 x.1 ∧ In64 x.2) (hbl : bl = cx.binds.length) (hB3 : Below w1.heap.size w1 w3) (hat3 : ∀ q, v3.ownBlock = some q → w1.heap.size ≤ q) (hA : Below w3.heap.size w3 wA) (hown4 : w4.ownsRow w.heap.size 57 2 v4 (bl + 1) (pr2 cx.binds ++ pr2 [p])) (hgrow4 : wA.grownBy w4 v3.ownBlock) (hat4 : ∀ q, v4.ownBlock = some q → v3.ownBlock = some q ∨ q = wA.heap.size) :
    w4.cell? ⟨g, k * 4 + 3, none⟩ = some bv ∧ w4.frozen? ⟨g, k * 4 + 3, none⟩ = false ∧ Od w (w4.setCell ⟨g, k * 4 + 3, none⟩ v4) (.slice (some ⟨g, 0, none⟩) m c1) m (b + 1) (T.set k (⟨cx.nm, cx.super, cx.fields, cx.binds ++ [p]⟩, v4)) := by
  have hkT := (List.getElem?_eq_some_iff.1 hx).1
  have hs3 := hB3.size
  have hsA := hA.size
  have hlen := hO.len
  have hB4 : Below w1.heap.size w1 w4 := (hB3.trans (hA.mono hs3)).grown hgrow4 (by omega) hat3
  have hO4 := hO.keep hB4
  have hg1 := (hO.own.lt g rfl).2
  obtain ⟨s0, f0, _⟩ := hO.vw _ (List.mem_of_getElem? hx)
  have hbk := hO.bn _ (List.mem_of_getElem? hx)
  simp only at s0 f0 hbk
  have e2 : (cx.binds ++ [p]).length = bl + 1 := by simp [hbl]
  refine ⟨(hO4.own.cellAt (k * 4 + 3) (by omega)).trans (cl4s_get T k _ hx).2.2.2, hO4.own.frozenAt _, (hO4.more (Nat.le_succ b)).store (j := 3) (y := (⟨cx.nm, cx.super, cx.fields, cx.binds ++ [p]⟩, v4)) hkT (cl4s_set T k (cx, bv) _ _ hx) s0 f0 (PrV.own (by simp only; rw [e2, pr2_app]; exact hown4) (fun y hy => ?_)) (by simp only; omega) (fun _ e => ?_)⟩
  · rcases List.mem_append.1 hy with hy | hy
    · exact hb64 y hy
    · rw [List.mem_singleton.1 hy]; exact hp
  · simp only at e
    rcases hat4 g e with e6 | e6
    · have := hat3 g e6; omega
    · omega
theorem ge_of {v v0 : Value} {H B : Nat} (h : v.ownBlock = v0.ownBlock ∨ v.ownBlock = some H) (h0 : ∀ q, v0.ownBlock = some q → B ≤ q) (hH : B ≤ H) : ∀ q, v.ownBlock = some q → B ≤ q := by
  intro q hq
  rcases ob_at h q hq with e | e
  · exact h0 q e
  · omega
theorem own_blk {B x y : Nat} : ∀ q, (Value.slice (some ⟨B, 0, none⟩) x y).ownBlock = some q → B ≤ q := by
  intro q hq
  have : B = q := by simpa [Value.ownBlock] using hq
  omega
set_option maxHeartbeats 64000000 in
theorem odd_c {w : World} {v : Value} {L : List ClassA} {b : Nat} (h : ClV w v L) (h100 : L.length ≤ 100) (hb0 : 31 ≤ b) (hb1 : b ≤ 1000) (hbn : ∀ c ∈ L, c.binds.length ≤ b) (what at_ n : Int) (hw : In64 what) (ha : In64 at_) (hn : In64 n) :
    Calls Try.prog 11 #[v, .int .i64 what, .int .i64 at_, .int .i64 n] w fun e w' => ∃ v', e = .returned v' ∧ ∃ L', ClV w' v' L' ∧ L'.length ≤ L.length + 1 ∧ (∀ c ∈ L', c.binds.length ≤ b + 1) ∧ Below w.heap.size w w' := by
  obtain ⟨i0, hi0, hz0, hz1, hz2⟩ := info_parts infoCls
  obtain ⟨i1, hi1, hy0, hy1, hy2⟩ := info_parts infoBind
  have hmx : 100000 ≤ maxLen := by decide
  obtain ⟨T, hTL, hT, hrd⟩ := h.rd
  obtain ⟨ad, cap, rfl, _, _⟩ := h.form
  obtain ⟨m, hm⟩ : ∃ m, m = L.length := ⟨_, rfl⟩
  have hTl : T.length = m := by rw [hm, ← hTL]; simp
  have hTb : ∀ x ∈ T, x.1.binds.length ≤ b := fun x hx => hbn x.1 (by rw [← hTL]; exact List.mem_map_of_mem hx)
  rw [← hm] at hrd h100 ⊢
  replace hm := Lib.hid hm
  replace hTl := Lib.hid hTl
  have hTL' := Lib.hid hTL
  clear hTL hbn
  have hrd0 := hrd
  have hsz : Hid (w.heap.size ≤ w.heap.size) := Lib.hid (Nat.le_refl _)
  have hTlt : ∀ x ∈ T, ∀ k, x.2.ownBlock = some k → 0 < x.1.binds.length → k < w.heap.size := fun x hx k e hl => by
    obtain ⟨_, _, hp⟩ := hT x hx
    obtain ⟨ad', cap', e1, _, _, h3⟩ := hp.ex
    obtain ⟨y, hy⟩ : ∃ y, x.1.binds[0]? = some y := ⟨x.1.binds[0], by simp⟩
    obtain ⟨_, _, g, off, e2, c0, _⟩ := h3 0 y hy
    have : g = k := by rw [e1, e2] at e; simpa [Value.ownBlock] using e
    rw [← this]
    exact World.block_lt_of_cell? w _ c0
  have h0 := Lib.hid ((Below.refl w.heap.size w).alloc (Nat.le_refl _) (.cells #[] 38))
  clear hrd
  have hrd' := Lib.hid hrd0
  go_enter Try.func11, Try.ntmps11
  by_cases hm0 : m = 0
  · have hm0' : ((m : Int) == 0) = true := by simp [hm0]
    replace hm0 := Lib.hid hm0
    go_wp2_with (first | (at_builtin; refine wpList_app_any rfl (.tmp 12) (.tmp 13) 23 rfl w.heap.size 38 i0 (.agg #[.string ByteArray.empty, .int .i64 0, .int .i64 0, .slice none 0 0]) 4 56 Try.underlying23 hi0 hz0 hz1 hz2 rfl (by decide) (.slice (some ⟨w.heap.size, 0, none⟩) 0 0) (.slice ad m cap) 0 m [] (cl4s T) (by simp [Act.eval]) (by simp [Act.eval]) (made_none w 38 4 _ (Nat.le_refl _)) (hrd'.out.up h0.out) (by rw [cl4s_len, hTl.out]) (cl4s_one _ (fun x hx => by obtain ⟨_, _, hp⟩ := hT x hx; obtain ⟨a, c, e, _⟩ := hp.form; exact ⟨_, _, _, e⟩)) (by omega) (by omega) (by simp only [World.size_alloc]; have := hsz.out; omega) ?_; intro v1 w1 hown1 hgrow1 hat1; rw [Nat.zero_add, List.nil_append] at hown1; obtain ⟨a1, c1, rfl⟩ := row_shape hown1; have hO := Lib.hid (Od.start h0.out hown1 hgrow1 (fun k e => by simp [Value.ownBlock] at e; omega) hTl.out hT hTb hTlt); clear hown1 hgrow1 hat1))
    go_ret
    exact ⟨_, rfl, hO.out.done (by omega) (by omega)⟩
  have hm0' : ((m : Int) == 0) = false := by simp; omega
  have hwm : IntKind.i64.wrap ((m : Int) - 1) = (m : Int) - 1 := by rw [IntKind.wrap_i64]; omega
  have PA := Lib.hid (within_c at_ 0 ((m : Int) - 1) ha.1 ha.2 (by omega) (by omega) (by omega))
  have PW := Lib.hid (within_c what 0 7 hw.1 hw.2 (by omega) (by omega) (by omega))
  have hka := within_bd at_ 0 ((m : Int) - 1) (by omega)
  have hqa := within_bd what 0 7 (by omega)
  generalize within at_ 0 ((m : Int) - 1) = kk at *
  generalize within what 0 7 = q at *
  obtain ⟨k, rfl⟩ : ∃ k : Nat, kk = (k : Int) := ⟨kk.toNat, by omega⟩
  have hk : k < m := by omega
  have hk' : (k : Int) < (m : Int) := by omega
  clear hka
  go_upto_block 0 with (first | (at_builtin; refine wpList_app_any rfl (.tmp 12) (.tmp 13) 23 rfl w.heap.size 38 i0 (.agg #[.string ByteArray.empty, .int .i64 0, .int .i64 0, .slice none 0 0]) 4 56 Try.underlying23 hi0 hz0 hz1 hz2 rfl (by decide) (.slice (some ⟨w.heap.size, 0, none⟩) 0 0) (.slice ad m cap) 0 m [] (cl4s T) (by simp [Act.eval]) (by simp [Act.eval]) (made_none w 38 4 _ (Nat.le_refl _)) (hrd'.out.up h0.out) (by rw [cl4s_len, hTl.out]) (cl4s_one _ (fun x hx => by obtain ⟨_, _, hp⟩ := hT x hx; obtain ⟨a, c, e, _⟩ := hp.form; exact ⟨_, _, _, e⟩)) (by omega) (by omega) (by simp only [World.size_alloc]; have := hsz.out; omega) ?_; intro v1 w1 hown1 hgrow1 hat1; rw [Nat.zero_add, List.nil_append] at hown1; obtain ⟨a1, c1, rfl⟩ := row_shape hown1; have hO := Lib.hid (Od.start h0.out hown1 hgrow1 (fun k e => by simp [Value.ownBlock] at e; omega) hTl.out hT hTb hTlt); clear hown1 hgrow1 hat1) | (go_at_call 14; ((with_reducible refine (PA.out _).mono ?_); rintro e w2 ⟨rfl, hw2⟩; subst w2)) | (go_at_call 14; ((with_reducible refine (PW.out _).mono ?_); rintro e w2 ⟨rfl, hw2⟩; subst w2)))
  clear hT hTb hTlt hrd' PA PW hwm
  obtain ⟨g, rfl⟩ := row_some hO.out.own (by omega)
  obtain ⟨⟨cx, bv⟩, hx⟩ : ∃ x, T[k]? = some x := ⟨T[k]'(by have := hTl.out; omega), by simp⟩
  obtain ⟨s0, f0, hp0⟩ := hO.out.vw _ (List.mem_of_getElem? hx)
  obtain ⟨cx0, cx1, cx2, cx3⟩ := cl4s_get T k _ hx
  have hup := cl4s_up T k _ hx
  have hbk := hO.out.bn _ (List.mem_of_getElem? hx)
  have hapk := hO.out.ap _ (List.mem_of_getElem? hx)
  have hkT : Hid (k < T.length) := Lib.hid (List.getElem?_eq_some_iff.1 hx).1
  have hgl : Hid (g < w1.heap.size ∧ w.heap.size ≤ g) := Lib.hid ⟨(hO.out.own.lt g rfl).2, (hO.out.own.lt g rfl).1⟩
  simp only at s0 f0 hp0 cx0 cx1 cx2 cx3 hup hbk hapk
  have hsz1 : Hid (w.heap.size ≤ w1.heap.size) := Lib.hid hO.out.bel.size
  go_cut [9] (fun v9 wx => ∃ (v9' : Value), v9 = v9' ∧ Hid (∃ L', ClV wx v9' L' ∧ L'.length ≤ m + 1 ∧ (∀ c ∈ L', c.binds.length ≤ b + 1) ∧ Below w.heap.size w wx))
  case first =>
    rcases (show q = 0 ∨ q = 1 ∨ q = 2 ∨ q = 3 ∨ q = 4 ∨ q = 5 ∨ q = 6 ∨ q = 7 by omega) with rfl | rfl | rfl | rfl | rfl | rfl | rfl | rfl
    · obtain ⟨j, hj, hj4⟩ : ∃ j : Nat, bits .and .i64 n 3 = (j : Int) ∧ j < 4 := ⟨(n % 4).toNat, by rw [and3]; omega, by omega⟩
      have hj4' : (j : Int) < 4 := by omega
      have hO1 := Lib.hid (hO.out.keep ((Below.refl _ _).alloc (Nat.le_refl _) (.cells #[.string ⟨#[]⟩, .string ⟨#[65]⟩, .string ⟨#[115, 105, 120, 116, 101, 101, 110, 95, 108, 101, 116, 116, 101, 114, 115, 95]⟩, .string ⟨#[115, 101, 118, 101, 110, 116, 101, 101, 110, 95, 108, 101, 116, 116, 101, 114, 115]⟩] 9)))
      have hb4 := born_nm w1 hj4
      have hcell : (w1.alloc (.cells #[.string ⟨#[]⟩, .string ⟨#[65]⟩, .string ⟨#[115, 105, 120, 116, 101, 101, 110, 95, 108, 101, 116, 116, 101, 114, 115, 95]⟩, .string ⟨#[115, 101, 118, 101, 110, 116, 101, 101, 110, 95, 108, 101, 116, 116, 101, 114, 115]⟩] 9)).cell? ⟨g, k * 4, none⟩ = some (.string cx.nm) := (hO1.out.own.cellAt _ (by omega)).trans cx0
      have hfro := hO1.out.own.frozenAt (k * 4)
      have hD := Lib.hid ((hO1.out.store (j := 0) hkT.out (hup (nm4 j) 0 0).1 s0 f0 (hp0.up ((Below.refl _ _).alloc (Nat.le_refl _) _)) hbk (fun hl e => hapk hl g e rfl)).done (m := m + 1) (b' := b + 1) (by omega) (by omega))
      rw [Nat.add_zero] at hD
      clear hp0 hup cx0 cx1 cx2 cx3 hapk
      go_wp2
      go_meet
      exact ⟨_, rfl, hD⟩
    · have hcell : w1.cell? ⟨g, k * 4 + 1, none⟩ = some (.int .i64 cx.super) := (hO.out.own.cellAt _ (by omega)).trans cx1
      have hfro := hO.out.own.frozenAt (k * 4 + 1)
      have hD := Lib.hid ((hO.out.store (j := 1) hkT.out (hup cx.nm n 0).2.1 hn f0 hp0 hbk (fun hl e => hapk hl g e rfl)).done (m := m + 1) (b' := b + 1) (by omega) (by omega))
      clear hp0 hup cx0 cx1 cx2 cx3 hapk
      go_wp2
      go_meet
      exact ⟨_, rfl, hD⟩
    · have hcell : w1.cell? ⟨g, k * 4 + 2, none⟩ = some (.int .i64 cx.fields) := (hO.out.own.cellAt _ (by omega)).trans cx2
      have hfro := hO.out.own.frozenAt (k * 4 + 2)
      have hD := Lib.hid ((hO.out.store (j := 2) hkT.out (hup cx.nm 0 n).2.2 s0 hn hp0 hbk (fun hl e => hapk hl g e rfl)).done (m := m + 1) (b' := b + 1) (by omega) (by omega))
      clear hp0 hup cx0 cx1 cx2 cx3 hapk
      go_wp2
      go_meet
      exact ⟨_, rfl, hD⟩
    · obtain ⟨ba, bc, rfl, _⟩ := hp0.form
      have hb1' := (Below.refl w1.heap.size w1).alloc (Nat.le_refl _) (.cells #[] 57)
      have hcell : (w1.alloc (.cells #[] 57)).cell? ⟨g, k * 4 + 3, none⟩ = some (.slice ba cx.binds.length bc) := ((hO.out.keep hb1').own.cellAt _ (by omega)).trans cx3
      have hrdb := Lib.hid (hp0.rd.up hb1')
      have hb64 := Lib.hid hp0.b64
      obtain ⟨bl, hbl⟩ : ∃ bl, bl = cx.binds.length := ⟨_, rfl⟩
      rw [← hbl] at hrdb hcell hx hbk
      have hbl' := Lib.hid hbl
      have hx' := Lib.hid hx
      have hp2 : Hid ((pr2 cx.binds).length = bl * 2) := Lib.hid (by rw [pr2_len, hbl])
      have hb1h := Lib.hid hb1'
      clear hbl hup cx0 cx1 cx2 cx3 hapk hp0 hx hb1'
      go_wp2_with (first | (at_builtin; refine wpList_app_any rfl (.tmp 58) (.tmp 63) 36 rfl w.heap.size 57 i1 (.agg #[.int .i64 0, .int .i64 0]) 2 16 Try.underlying36 hi1 hy0 hy1 hy2 rfl (by decide) (.slice (some ⟨w1.heap.size, 0, none⟩) 0 0) (.slice ba bl bc) 0 bl [] (pr2 cx.binds) (by simp [Act.eval]) (by simp [Act.eval]) (made_none w1 _ 2 _ hsz1.out) hrdb.out hp2.out (pr2_one _) (by omega) (by omega) (by simp only [World.size_alloc]; have := hsz1.out; omega) ?_; intro v3 w3 hown3 hgrow3 hat3; rw [Nat.zero_add, List.nil_append] at hown3; obtain ⟨a3, c3, rfl⟩ := row_shape hown3; have hB3 := Lib.hid (hb1h.out.grown hgrow3 (by simp) own_blk); have hge3 := Lib.hid (ge_of (B := w1.heap.size) hat3 own_blk (by simp)); have hown3' := Lib.hid hown3; clear hown3 hgrow3 hat3) | (at_builtin; refine wpList_append_lies _ rfl (.tmp 64) (.tmp 67) 36 rfl w.heap.size 57 i1 (.agg #[.int .i64 0, .int .i64 0]) 2 16 Try.underlying36 hi1 hy0 hy1 hy2 rfl (by decide) (.slice a3 bl c3) bl _ (by simp [Act.eval]) (hown3'.out.alloc _) ⟨w3.heap.size, 0, none⟩ 1 1 (pr2 [(n, 0)]) (by simp [Act.eval]) (by simp [pr2]) (pair_at ((World.cell?_alloc_new _ _ _ 0).trans rfl) ((World.cell?_alloc_new _ _ _ 1).trans rfl)) (pr2_one _) (by omega) (by omega) (by omega) (by simp only [World.size_alloc]; have := hsz1.out; have := hB3.out.size; omega) _ rfl ?_; intro g4 cap4 w4 hown4 hgrow4 hat4 hlt4; obtain ⟨hcell4, hfro4, hD0⟩ := Od.bind hO.out hx'.out (p := (n, 0)) ⟨hn, in64_of (by simp only; omega) (by simp only; omega)⟩ hb64.out hbl'.out hB3.out hge3.out ((Below.refl w3.heap.size w3).alloc (Nat.le_refl _) _) hown4 hgrow4 (at_hat hat4); have hD := Lib.hid (hD0.done (m := m + 1) (b' := b + 1) (by omega) (by omega)); clear hown4 hgrow4 hat4 hlt4 hD0))
      go_meet
      exact ⟨_, rfl, hD⟩
    · obtain ⟨ba, bc, rfl, _⟩ := hp0.form
      have hb1' := (Below.refl w1.heap.size w1).alloc (Nat.le_refl _) (.cells #[] 57)
      have hcell : (w1.alloc (.cells #[] 57)).cell? ⟨g, k * 4 + 3, none⟩ = some (.slice ba cx.binds.length bc) := ((hO.out.keep hb1').own.cellAt _ (by omega)).trans cx3
      have hrdb := Lib.hid (hp0.rd.up hb1')
      have hb64 := Lib.hid hp0.b64
      obtain ⟨bl, hbl⟩ : ∃ bl, bl = cx.binds.length := ⟨_, rfl⟩
      rw [← hbl] at hrdb hcell hx hbk
      have hbl' := Lib.hid hbl
      have hx' := Lib.hid hx
      have hp2 : Hid ((pr2 cx.binds).length = bl * 2) := Lib.hid (by rw [pr2_len, hbl])
      have hb1h := Lib.hid hb1'
      clear hbl hup cx0 cx1 cx2 cx3 hapk hp0 hx hb1'
      go_wp2_with (first | (at_builtin; refine wpList_app_any rfl (.tmp 75) (.tmp 80) 36 rfl w.heap.size 57 i1 (.agg #[.int .i64 0, .int .i64 0]) 2 16 Try.underlying36 hi1 hy0 hy1 hy2 rfl (by decide) (.slice (some ⟨w1.heap.size, 0, none⟩) 0 0) (.slice ba bl bc) 0 bl [] (pr2 cx.binds) (by simp [Act.eval]) (by simp [Act.eval]) (made_none w1 _ 2 _ hsz1.out) hrdb.out hp2.out (pr2_one _) (by omega) (by omega) (by simp only [World.size_alloc]; have := hsz1.out; omega) ?_; intro v3 w3 hown3 hgrow3 hat3; rw [Nat.zero_add, List.nil_append] at hown3; obtain ⟨a3, c3, rfl⟩ := row_shape hown3; have hB3 := Lib.hid (hb1h.out.grown hgrow3 (by simp) own_blk); have hge3 := Lib.hid (ge_of (B := w1.heap.size) hat3 own_blk (by simp)); have hown3' := Lib.hid hown3; clear hown3 hgrow3 hat3) | (at_builtin; refine wpList_append_lies _ rfl (.tmp 81) (.tmp 84) 36 rfl w.heap.size 57 i1 (.agg #[.int .i64 0, .int .i64 0]) 2 16 Try.underlying36 hi1 hy0 hy1 hy2 rfl (by decide) (.slice a3 bl c3) bl _ (by simp [Act.eval]) (hown3'.out.alloc _) ⟨w3.heap.size, 0, none⟩ 1 1 (pr2 [(0, n)]) (by simp [Act.eval]) (by simp [pr2]) (pair_at ((World.cell?_alloc_new _ _ _ 0).trans rfl) ((World.cell?_alloc_new _ _ _ 1).trans rfl)) (pr2_one _) (by omega) (by omega) (by omega) (by simp only [World.size_alloc]; have := hsz1.out; have := hB3.out.size; omega) _ rfl ?_; intro g4 cap4 w4 hown4 hgrow4 hat4 hlt4; obtain ⟨hcell4, hfro4, hD0⟩ := Od.bind hO.out hx'.out (p := (0, n)) ⟨in64_of (by simp only; omega) (by simp only; omega), hn⟩ hb64.out hbl'.out hB3.out hge3.out ((Below.refl w3.heap.size w3).alloc (Nat.le_refl _) _) hown4 hgrow4 (at_hat hat4); have hD := Lib.hid (hD0.done (m := m + 1) (b' := b + 1) (by omega) (by omega)); clear hown4 hgrow4 hat4 hlt4 hD0))
      go_meet
      exact ⟨_, rfl, hD⟩
    · obtain ⟨r, hr, hr32⟩ : ∃ r : Nat, bits .and .i64 n 31 = (r : Int) ∧ r < 32 := ⟨(n % 32).toNat, by rw [and31]; omega, by omega⟩
      have hmk : ∀ w : World, (Instr.makeSlice 36 (.int .i64 (r : Int)) (.int .i64 (r : Int))).run Try.prog w = .ok (.slice (some ⟨w.heap.size, 0, none⟩) r r) (w.alloc (.cells (madeCells #[.int .i64 0, .int .i64 0] (r * 2)) 57)) := fun w => by
        have hq := run_make (P := Try.prog) w 36 57 i1 (.agg #[.int .i64 0, .int .i64 0]) Try.underlying36 hi1 hy0 .i64 .i64 (r : Int) (r : Int) (by omega) (Int.le_refl _) (by rw [hy2]; omega) (by omega)
        rw [hy1] at hq
        rw [show (Value.agg #[Value.int .i64 0, Value.int .i64 0]).cells = #[Value.int .i64 0, Value.int .i64 0] from rfl] at hq
        simpa using hq
      have hhp : (w1.alloc (.cells (madeCells #[.int .i64 0, .int .i64 0] (r * 2)) 57)).heap[w1.heap.size]? = some (.cells (madeCells #[.int .i64 0, .int .i64 0] (r * 2)) 57 (0, 0)) := alloc_at _ _ _ rfl
      have hrow := row_of (b := w.heap.size) (sz := 2) (m := r) hhp hsz1.out (size_madeCells _ _) (by omega)
      rw [made_two, ← pr2_rep] at hrow
      have hOA := hO.out.keep ((Below.refl w1.heap.size w1).alloc (Nat.le_refl _) (.cells (madeCells #[.int .i64 0, .int .i64 0] (r * 2)) 57))
      have hcell : (w1.alloc (.cells (madeCells #[.int .i64 0, .int .i64 0] (r * 2)) 57)).cell? ⟨g, k * 4 + 3, none⟩ = some bv := (hOA.own.cellAt _ (by omega)).trans cx3
      have hfro := hOA.own.frozenAt (k * 4 + 3)
      have hg1 := hgl.out.1
      have hgne : w1.heap.size ≠ g := by omega
      have hD0 := Lib.hid (hOA.store (j := 3) (y := (⟨cx.nm, cx.super, cx.fields, List.replicate r (0, 0)⟩, .slice (some ⟨w1.heap.size, 0, none⟩) r r)) hkT.out (cl4s_set T k (cx, bv) _ _ hx) s0 f0 (PrV.own (by simpa using hrow) (fun y hy => by rw [(List.mem_replicate.1 hy).2]; exact ⟨in64_of (by simp only; omega) (by simp only; omega), in64_of (by simp only; omega) (by simp only; omega)⟩)) (by simp only [List.length_replicate]; omega) (fun _ e => by have : w1.heap.size = g := (by simpa [Value.ownBlock] using e); omega))
      have hrow3 := Lib.hid (row_set hrow ⟨g, k * 4 + 3, none⟩ (.slice (some ⟨w1.heap.size, 0, none⟩) r r) (by intro e; have : w1.heap.size = g := (by simpa [Value.ownBlock] using e); omega))
      have hcm : (w1.alloc (.cells (madeCells #[.int .i64 0, .int .i64 0] (r * 2)) 57)).setCell ⟨g, k * 4 + 3, none⟩ (.slice (some ⟨w1.heap.size, 0, none⟩) r r) = (w1.setCell ⟨g, k * 4 + 3, none⟩ (.slice (some ⟨w1.heap.size, 0, none⟩) r r)).alloc (.cells (madeCells #[.int .i64 0, .int .i64 0] (r * 2)) 57) := World.setCell_alloc_past _ _ _ _ hg1
      rw [hcm] at hD0 hrow3
      clear hcm
      have hTa : Hid (∀ x ∈ T, 0 < x.1.binds.length → x.2.ownBlock ≠ some w1.heap.size) := Lib.hid (fun x hx hl e => by have := ((hO.out.vw x hx).2.2).blk hl e; omega)
      clear hhp hrow hOA hp0 hup cx0 cx1 cx2 cx3 hapk
      obtain ⟨ba, bbl, bbc, hbv⟩ : ∃ a m c, bv = .slice a m c := by
        obtain ⟨_, _, hpx⟩ := hO.out.vw _ (List.mem_of_getElem? hx)
        obtain ⟨a, c, e, _⟩ := hpx.form
        exact ⟨_, _, _, e⟩
      rw [hbv] at hcell
      have hx' := Lib.hid hx
      clear hbv hx
      go_upto_region 19 with fail
      generalize (w1.setCell ⟨g, k * 4 + 3, none⟩ (.slice (some ⟨w1.heap.size, 0, none⟩) r r)).alloc (.cells (madeCells #[.int .i64 0, .int .i64 0] (r * 2)) 57) = w3 at *
      generalize hgb : w1.heap.size = gb at *
      have hgwb : Hid (w.heap.size ≤ gb) := Lib.hid (by have := hsz1.out; omega)
      have hB0 : Hid ((List.replicate r ((0 : Int), (0 : Int))).length = r ∧ ∀ x ∈ List.replicate r ((0 : Int), (0 : Int)), In64 x.1 ∧ In64 x.2) := Lib.hid ⟨by simp, fun y hy => by rw [(List.mem_replicate.1 hy).2]; exact ⟨in64_of (by simp only; omega) (by simp only; omega), in64_of (by simp only; omega) (by simp only; omega)⟩⟩
      generalize List.replicate r ((0 : Int), (0 : Int)) = B at *
      have hcellr : ∀ (wr : World) (C : List (Int × Int)), Od w wr (.slice (some ⟨g, 0, none⟩) m c1) m b (T.set k (⟨cx.nm, cx.super, cx.fields, C⟩, .slice (some ⟨gb, 0, none⟩) r r)) → wr.cell? ⟨g, k * 4 + 3, none⟩ = some (.slice (some ⟨gb, 0, none⟩) r r) := fun wr C hh => (hh.own.cellAt _ (by have := hTl.out; have := hkT.out; omega)).trans (cl4s_get _ k (⟨cx.nm, cx.super, cx.fields, C⟩, .slice (some ⟨gb, 0, none⟩) r r) (List.getElem?_set_self hkT.out)).2.2.2
      replace hcellr := Lib.hid hcellr
      have hc3 := hcellr.out w3 B hD0.out
      clear hcell hfro hmk hgb
      go_wp2_with fail
      go_loopw [11, 103] (fun i11 i103 wr => ∃ (i : Nat) (B : List (Int × Int)), i ≤ r ∧ i103 = .int .i64 i ∧ Hid (B.length = r ∧ ∀ x ∈ B, In64 x.1 ∧ In64 x.2) ∧ Hid (wr.ownsRow w.heap.size 57 2 (.slice (some ⟨gb, 0, none⟩) r r) r (pr2 B)) ∧ Hid (Od w wr (.slice (some ⟨g, 0, none⟩) m c1) m b (T.set k (⟨cx.nm, cx.super, cx.fields, B⟩, .slice (some ⟨gb, 0, none⟩) r r)))) (fun _ i103 _ => r - (intOf i103).toNat)
      case atStart => exact ⟨0, B, by omega, rfl, hB0, hrow3, hD0⟩
      case round =>
        clear hB0 hrow3 hD0 hc3
        obtain ⟨i, B, hi, rfl, hB, hrw, hOd⟩ := hrel
        by_cases hir : i < r
        · have hir' : (i : Int) < (r : Int) := by omega
          have hcg := hcellr.out _ B hOd.out
          obtain ⟨y, hy⟩ : ∃ y, B[i]? = some y := ⟨B[i]'(by have := hB.out.1; omega), by simp⟩
          have hci : wr.cell? ⟨gb, i * 2, none⟩ = some (.int .i64 y.1) := (hrw.out.cellAt _ (by omega)).trans (pr2_get B i y hy).1
          have hzi := hrw.out.frozenAt (i * 2)
          have hst := (hrw.out.stored (i * 2) (.int .i64 (i : Int))).1
          rw [← pr2_set0 B i y hy] at hst
          have hB' : ∀ x ∈ B.set i ((i : Int), y.2), In64 x.1 ∧ In64 x.2 := fun x hx => by
            rcases List.mem_or_eq_of_mem_set hx with hx | rfl
            · exact hB.out.2 x hx
            · exact ⟨in64_of (by simp only; omega) (by simp only; omega), (hB.out.2 y (List.mem_of_getElem? hy)).2⟩
          have hl' : (B.set i ((i : Int), y.2)).length = r := by simp [hB.out.1]
          have hOd' := Lib.hid (hOd.out.turn (B' := B.set i ((i : Int), y.2)) hkT.out ((Cg.refl (fun q => q = gb) wr).set ⟨gb, i * 2, none⟩ rfl (.int .i64 (i : Int))) hgwb.out (by intro e; have : g = gb := (by simpa [Value.ownBlock] using e); omega) (by simp) (PrV.own (by rw [hl']; exact hst) hB') hTa.out)
          have hst' := Lib.hid hst
          have hBB := Lib.hid (And.intro hl' hB')
          clear hst hy hB' hl'
          go_wp2
          go_roundw
          case rel => exact ⟨i + 1, _, by omega, by go_num, hBB, hst', hOd'⟩
          case measure => simp [intOf]; omega
        · have hD := Lib.hid (hOd.out.done (m := m + 1) (b' := b + 1) (by omega) (by omega))
          go_wp2_with fail
          go_meet
          exact ⟨_, rfl, hD⟩
    · obtain ⟨r, hr, hr32⟩ : ∃ r : Nat, bits .and .i64 n 31 = (r : Int) ∧ r < 32 := ⟨(n % 32).toNat, by rw [and31]; omega, by omega⟩
      have hwm : IntKind.i64.wrap ((m : Int) - 1) = (m : Int) - 1 := by rw [IntKind.wrap_i64]; omega
      have hwr : IntKind.i64.wrap (40 + (r : Int)) = 40 + (r : Int) := by rw [IntKind.wrap_i64]; omega
      have hcd := Lib.hid hO.out.own
      clear hp0 hup cx0 cx1 cx2 cx3 hapk
      go_wp2_with (first | (at_builtin; refine wpList_append_lies _ rfl (.tmp 118) (.tmp 126) 23 rfl w.heap.size 38 i0 (.agg #[.string ByteArray.empty, .int .i64 0, .int .i64 0, .slice none 0 0]) 4 56 Try.underlying23 hi0 hz0 hz1 hz2 rfl (by decide) (.slice (some ⟨g, 0, none⟩) m c1) m _ (by simp [Act.eval]) (hcd.out.alloc _) ⟨w1.heap.size, 0, none⟩ 1 1 (cl4 ⟨⟨#[78, 101, 119]⟩, (m : Int) - 1, 40 + (r : Int), []⟩ (.slice none 0 0)) (by simp [Act.eval]) (by simp [cl4]) (cl4_at ((World.cell?_alloc_new _ _ _ 0).trans rfl) ((World.cell?_alloc_new _ _ _ 1).trans rfl) ((World.cell?_alloc_new _ _ _ 2).trans rfl) ((World.cell?_alloc_new _ _ _ 3).trans rfl)) (cl4_one _ _ ⟨_, _, _, rfl⟩) (by omega) (by omega) (by omega) (by simp only [World.size_alloc]; have := hsz1.out; omega) _ rfl ?_; intro g4 cap4 w4 hown4 hgrow4 hat4 hlt4; have hD := Lib.hid ((hO.out.push ((Below.refl w1.heap.size w1).alloc (Nat.le_refl _) _) hown4 hgrow4 (at_hat hat4) (in64_of (by simp only; omega) (by simp only; omega)) (in64_of (by simp only; omega) (by simp only; omega)) rfl).done (m := m + 1) (b' := b + 1) (by omega) (by omega)); clear hown4 hgrow4 hat4 hlt4))
      go_meet
      exact ⟨_, rfl, hD⟩
    · have hcv := hO.out.fin
      obtain ⟨ad2, cap2, e2, hc2, _⟩ := hcv.form
      have hlT : (T.map (·.1)).length = m := by simp [hTl.out]
      rw [hlT] at e2 hc2
      have hkc : (k : Int) ≤ (c1 : Int) := by cases e2; omega
      have hD : Hid (∃ L', ClV w1 (.slice (some ⟨g, 0, none⟩) k c1) L' ∧ L'.length ≤ m + 1 ∧ (∀ c ∈ L', c.binds.length ≤ b + 1) ∧ Below w.heap.size w w1) := Lib.hid ⟨_, hcv.take k (by omega), by rw [List.length_take]; omega, fun c hc => by obtain ⟨x, hx, rfl⟩ := List.mem_map.1 (List.mem_of_mem_take hc); have := hO.out.bn x hx; omega, hO.out.bel⟩
      have k0 : (0 : Int) ≤ (k : Int) := by omega
      clear hcv e2 hp0 hup cx0 cx1 cx2 cx3 hapk
      go_wp2
      go_meet
      exact ⟨_, rfl, hD⟩
  case rest =>
    obtain ⟨v9, rfl, hD⟩ := hcut
    go_wp2
    go_ret
    exact ⟨_, rfl, hD.out⟩
end Wd
end Go.Proofs.Ytlbekicalinglaa
