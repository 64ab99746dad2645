/- Texts joined: KU, UTP. -/
import Derived.Test.YtgfdgdbkifkehaaGreatJ6
import Derived.Test.YtgfdgdbkifkehaaGreatJ7
import Derived.Test.YtgfdgdbkifkehaaGreatJ8
import Derived.Test.YtgfdgdbkifkehaaGreatJ9
import Derived.Maps.AppendAt
import Derived.Deep.AppendLies
/- A tape's program, of all its parts. -/
namespace Go.Proofs.YtgfdgdbkifkehaaGreat
open Go.RowKit
set_option linter.unusedVariables false
namespace Wd
theorem unit_c {w : World} {p n : Nat} {ad : Option Addr} (h : Tp w p ad n) :
    Calls Tryz.prog 6 #[.pointer (some ⟨p, 0, none⟩)] w fun e w' => ∃ nv cv mv ov, e = .returned (.agg #[nv, cv, mv, ov, .int .i64 6]) ∧ ∃ U, UnV w' nv cv mv ov U ∧ TapeU U ∧ Tp w' p ad n ∧ Cg (fun k => k = p) w w' ∧ UnF (w.heap.size + 1) w' nv cv mv ov U := unit_k (methodC pieceC) h
end Wd
end Go.Proofs.YtgfdgdbkifkehaaGreat

/- A tape's program, by value. -/
namespace Go.Proofs.YtgfdgdbkifkehaaGreat
open Go.RowKit
set_option linter.unusedVariables false
set_option maxRecDepth 20000
namespace Wd
theorem UnV.k {w : World} {nv cv mv ov : Value} {U : UnitA} (h : UnV w nv cv mv ov U) (hm : U.main = 6) : UnK w (.agg #[nv, cv, mv, ov, .int .i64 6]) U := by
  obtain ⟨na, nc, rfl, _⟩ := h.n.ex
  obtain ⟨ca, cc, rfl, _⟩ := h.c.ex
  obtain ⟨ma, mc, rfl, _⟩ := h.m.ex
  obtain ⟨oa, oc, rfl, _⟩ := h.o.ex
  exact ⟨⟨na, nc, ca, cc, ma, mc, oa, oc, by rw [hm], h⟩⟩
theorem MeV.of {w : World} {la ca : Option Addr} {nl lc nb cc : Nat} {a t : Int} {L : List (Int × Int)} {C : List Int} (hl : PrV w (.slice la nl lc) L) (hc : ByV w (.slice ca nb cc) C) (ha : In64 a) (ht : In64 t) : MeV w (.agg #[.int .i64 a, .int .i64 t, .slice la nl lc, .slice ca nb cc]) ⟨a, t, L, C⟩ := by
  obtain ⟨_, _, e, _⟩ := hl.ex
  obtain ⟨_, _, e2, _⟩ := hc.ex
  cases e; cases e2
  exact ⟨⟨la, lc, ca, cc, rfl, hl, hc⟩, ha, ht⟩
/-- numbers that came in -/
def NumA (w : World) (ad : Option Addr) (n : Nat) : Prop := ∀ k, k < n → ∃ (g off : Nat) (x : Int), ad = some ⟨g, off, none⟩ ∧ (-9223372036854775808 ≤ x ∧ x ≤ 9223372036854775807) ∧ w.cell? ⟨g, off + k, none⟩ = some (.int .i64 x)
theorem NumA.up {w w1 : World} {ad : Option Addr} {n : Nat} (h : NumA w ad n) (b : Below w.heap.size w w1) : NumA w1 ad n := fun k hk => by
  obtain ⟨g, off, x, e, h1, h2⟩ := h k hk
  exact ⟨g, off, x, e, h1, cell_up b h2⟩
theorem tape_tp {w : World} {ad : Option Addr} {n cap : Nat} (h : NumA w ad n) (hn : n ≤ 4611686018427387904) : Tp (w.alloc (.cells #[.slice ad n cap, .int .i64 0] 32)) w.heap.size ad n := by
  refine ⟨⟨cap, by simp⟩, ⟨0, by omega, by simp⟩, World.frozen?_alloc_new _ _ _ _, fun k hk => ?_, hn⟩
  obtain ⟨g, off, x, e, b, c⟩ := h k hk
  have hg := World.block_lt_of_cell? w _ c
  exact ⟨g, off, x, e, by simp only at hg; omega, b, (World.cell?_alloc_old _ _ _ (Nat.ne_of_lt hg)).trans c⟩
theorem unit_bel {w w' : World} {c : Obj} (h : Cg (fun k => k = w.heap.size) (w.alloc c) w') : Below w.heap.size w w' :=
  ⟨h.os, h.tape, h.output, by have := h.size; simp at this; omega, fun k hk => (h.block k (by simp; omega) (by omega)).trans (Below.heap_alloc _ _ _ hk)⟩
/-- a tape's program, with the rows of its methods: it lies in blocks from s on -/
structure UnT (s : Nat) (w : World) (v : Value) (U : UnitA) (g cap : Nat) (M : List (MethA × Value × Value)) : Prop where
  ex : ∃ na nc ca cc oa oc, v = .agg #[.slice na U.names.length nc, .slice ca U.classes.length cc, .slice (some ⟨g, 0, none⟩) U.methods.length cap, .slice oa U.objects.length oc, .int .i64 U.main]
  un : ∀ (G : Nat → Prop) (w2 : World), Cg G w w2 → (∀ k, G k → k < s) → UnK w2 v U
  mm : M.map (·.1) = U.methods
  ms : ∀ (G : Nat → Prop) (w2 : World), Cg G w w2 → (∀ k, G k → k < s) → ∀ (k : Nat) x, M[k]? = some x → w2.cell? ⟨g, k * 4, none⟩ = some (.int .i64 x.1.args) ∧ w2.cell? ⟨g, k * 4 + 1, none⟩ = some (.int .i64 x.1.temps) ∧ w2.cell? ⟨g, k * 4 + 2, none⟩ = some x.2.1 ∧ w2.cell? ⟨g, k * 4 + 3, none⟩ = some x.2.2 ∧ In64 x.1.args ∧ In64 x.1.temps ∧ PrV w2 x.2.1 x.1.lits ∧ ByV w2 x.2.2 x.1.code
  ta : TapeU U
theorem UnT.cg {s : Nat} {w w1 : World} {v : Value} {U : UnitA} {g cap : Nat} {M : List (MethA × Value × Value)} (h : UnT s w v U g cap M) {F : Nat → Prop} (c : Cg F w w1) (hF : ∀ k, F k → k < s) : UnT s w1 v U g cap M :=
  ⟨h.ex, fun G w2 hG hl => h.un (fun k => F k ∨ G k) w2 ((c.mono (fun k hk => Or.inl hk)).trans (hG.mono (fun k hk => Or.inr hk))) (fun k hk => hk.elim (hF k) (hl k)), h.mm,
    fun G w2 hG hl => h.ms (fun k => F k ∨ G k) w2 ((c.mono (fun k hk => Or.inl hk)).trans (hG.mono (fun k hk => Or.inr hk))) (fun k hk => hk.elim (hF k) (hl k)), h.ta⟩
theorem UnT.up {s : Nat} {w w1 : World} {v : Value} {U : UnitA} {g cap : Nat} {M : List (MethA × Value × Value)} (h : UnT s w v U g cap M) (b : Below w.heap.size w w1) : UnT s w1 v U g cap M := h.cg (Cg.below (fun _ => False) b) (fun _ e => e.elim)
theorem UnT.k {s : Nat} {w : World} {v : Value} {U : UnitA} {g cap : Nat} {M : List (MethA × Value × Value)} (h : UnT s w v U g cap M) : UnK w v U := h.un (fun _ => False) w (Cg.refl _ _) (fun _ e => e.elim)
theorem UnT.m {s : Nat} {w : World} {v : Value} {U : UnitA} {g cap : Nat} {M : List (MethA × Value × Value)} (h : UnT s w v U g cap M) {k : Nat} {x : MethA × Value × Value} (hx : M[k]? = some x) : w.cell? ⟨g, k * 4, none⟩ = some (.int .i64 x.1.args) ∧ w.cell? ⟨g, k * 4 + 1, none⟩ = some (.int .i64 x.1.temps) ∧ w.cell? ⟨g, k * 4 + 2, none⟩ = some x.2.1 ∧ w.cell? ⟨g, k * 4 + 3, none⟩ = some x.2.2 ∧ In64 x.1.args ∧ In64 x.1.temps ∧ PrV w x.2.1 x.1.lits ∧ ByV w x.2.2 x.1.code := h.ms (fun _ => False) w (Cg.refl _ _) (fun _ e => e.elim) k x hx
/-- a method of it, by value -/
theorem UnT.me {s : Nat} {w : World} {v : Value} {U : UnitA} {g cap : Nat} {M : List (MethA × Value × Value)} (h : UnT s w v U g cap M) {k : Nat} {x : MethA × Value × Value} (hx : M[k]? = some x) : MeV w (.agg #[.int .i64 x.1.args, .int .i64 x.1.temps, x.2.1, x.2.2]) x.1 := by
  obtain ⟨_, _, _, _, i1, i2, hl, hc⟩ := h.m hx
  obtain ⟨la, lc, e1, _⟩ := hl.form
  obtain ⟨ca, cc, e2, _⟩ := hc.form
  rw [e1] at hl ⊢
  rw [e2] at hc ⊢
  exact MeV.of hl hc i1 i2
theorem UnT.ml {s : Nat} {w : World} {v : Value} {U : UnitA} {g cap : Nat} {M : List (MethA × Value × Value)} (h : UnT s w v U g cap M) : M.length = 9 ∧ U.methods.length = 9 := by
  have := h.ta.ml
  rw [← h.mm] at this
  exact ⟨by simpa using this, h.ta.ml⟩
end Wd
end Go.Proofs.YtgfdgdbkifkehaaGreat
