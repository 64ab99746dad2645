/- Texts joined: UTP, USH, IRB, IRC, IMP, IRD, IRE, IRF, IRG, IRH, IRI, IRJ, IMF, ILP, ILR, ILS, IST. -/
import Derived.Test.YtgfnelhbdhbklaaGreatRows
import Derived.Test.YtgfnelhbdhbklaaGreatJ1
import Derived.Test.YtgfnelhbdhbklaaGreatJ3
import Derived.Test.YtgfnelhbdhbklaaGreatJ5
import Derived.Test.YtgfnelhbdhbklaaGreatJ9
import Derived.Maps.AppendAt
import Derived.Deep.AppendLies
import Derived.SizedLaws
import Derived.ProofKit
import Derived.OpenShut
import Derived.Carry
import Derived.Laws.AppendOwn
import Derived.Laws.CopyRow
import Derived.Laws.IdiomStrings
import Derived.Lib.AppendStr
import Derived.OwnWalk
import Derived.WalkKit
import Derived.Deep.DeepCutAuto
import Derived.Deep.CutBlock
import Derived.Lib.SlBytesConst
/- A tape's program, by value. -/
namespace Go.Proofs.YtgfnelhbdhbklaaGreat
open Go.RowKit
set_option linter.unusedVariables false
set_option maxRecDepth 20000
namespace Wd
theorem UnV.k {w : World} {nv cv mv ov : Value} {U : UnitA} (h : UnV w nv cv mv ov U) (hm : U.main = 6) : UnK w (.agg #[nv, cv, mv, ov, .int .i64 6]) U := by
  obtain ⟨na, nc, rfl, _⟩ := h.n.ex
  obtain ⟨ca, cc, rfl, _⟩ := h.c.ex
  obtain ⟨ma, mc, rfl, _⟩ := h.m.ex
  obtain ⟨oa, oc, rfl, _⟩ := h.o.ex
  exact ⟨⟨na, nc, ca, cc, ma, mc, oa, oc, by rw [hm], h⟩⟩
theorem MeV.of {w : World} {la ca : Option Addr} {nl lc nb cc : Nat} {a t : Int} {L : List (Int × Int)} {C : List Int} (hl : PrV w (.slice la nl lc) L) (hc : ByV w (.slice ca nb cc) C) (ha : In64 a) (ht : In64 t) : MeV w (.agg #[.int .i64 a, .int .i64 t, .slice la nl lc, .slice ca nb cc]) ⟨a, t, L, C⟩ := by
  obtain ⟨_, _, e, _⟩ := hl.ex
  obtain ⟨_, _, e2, _⟩ := hc.ex
  cases e; cases e2
  exact ⟨⟨la, lc, ca, cc, rfl, hl, hc⟩, ha, ht⟩
/-- numbers that came in -/
def NumA (w : World) (ad : Option Addr) (n : Nat) : Prop := ∀ k, k < n → ∃ (g off : Nat) (x : Int), ad = some ⟨g, off, none⟩ ∧ (-9223372036854775808 ≤ x ∧ x ≤ 9223372036854775807) ∧ w.cell? ⟨g, off + k, none⟩ = some (.int .i64 x)
theorem NumA.up {w w1 : World} {ad : Option Addr} {n : Nat} (h : NumA w ad n) (b : Below w.heap.size w w1) : NumA w1 ad n := fun k hk => by
  obtain ⟨g, off, x, e, h1, h2⟩ := h k hk
  exact ⟨g, off, x, e, h1, cell_up b h2⟩
theorem tape_tp {w : World} {ad : Option Addr} {n cap : Nat} (h : NumA w ad n) (hn : n ≤ 4611686018427387904) : Tp (w.alloc (.cells #[.slice ad n cap, .int .i64 0] 32)) w.heap.size ad n := by
  refine ⟨⟨cap, by simp⟩, ⟨0, by omega, by simp⟩, World.frozen?_alloc_new _ _ _ _, fun k hk => ?_, hn⟩
  obtain ⟨g, off, x, e, b, c⟩ := h k hk
  have hg := World.block_lt_of_cell? w _ c
  exact ⟨g, off, x, e, by simp only at hg; omega, b, (World.cell?_alloc_old _ _ _ (Nat.ne_of_lt hg)).trans c⟩
theorem unit_bel {w w' : World} {c : Obj} (h : Cg (fun k => k = w.heap.size) (w.alloc c) w') : Below w.heap.size w w' :=
  ⟨h.os, h.tape, h.output, by have := h.size; simp at this; omega, fun k hk => (h.block k (by simp; omega) (by omega)).trans (Below.heap_alloc _ _ _ hk)⟩
/-- a tape's program, with the rows of its methods: it lies in blocks from s on -/
structure UnT (s : Nat) (w : World) (v : Value) (U : UnitA) (g cap : Nat) (M : List (MethA × Value × Value)) : Prop where
  ex : ∃ na nc ca cc oa oc, v = .agg #[.slice na U.names.length nc, .slice ca U.classes.length cc, .slice (some ⟨g, 0, none⟩) U.methods.length cap, .slice oa U.objects.length oc, .int .i64 U.main]
  un : ∀ (G : Nat → Prop) (w2 : World), Cg G w w2 → (∀ k, G k → k < s) → UnK w2 v U
  mm : M.map (·.1) = U.methods
  ms : ∀ (G : Nat → Prop) (w2 : World), Cg G w w2 → (∀ k, G k → k < s) → ∀ (k : Nat) x, M[k]? = some x → w2.cell? ⟨g, k * 4, none⟩ = some (.int .i64 x.1.args) ∧ w2.cell? ⟨g, k * 4 + 1, none⟩ = some (.int .i64 x.1.temps) ∧ w2.cell? ⟨g, k * 4 + 2, none⟩ = some x.2.1 ∧ w2.cell? ⟨g, k * 4 + 3, none⟩ = some x.2.2 ∧ In64 x.1.args ∧ In64 x.1.temps ∧ PrV w2 x.2.1 x.1.lits ∧ ByV w2 x.2.2 x.1.code
  ta : TapeU U
theorem UnT.cg {s : Nat} {w w1 : World} {v : Value} {U : UnitA} {g cap : Nat} {M : List (MethA × Value × Value)} (h : UnT s w v U g cap M) {F : Nat → Prop} (c : Cg F w w1) (hF : ∀ k, F k → k < s) : UnT s w1 v U g cap M :=
  ⟨h.ex, fun G w2 hG hl => h.un (fun k => F k ∨ G k) w2 ((c.mono (fun k hk => Or.inl hk)).trans (hG.mono (fun k hk => Or.inr hk))) (fun k hk => hk.elim (hF k) (hl k)), h.mm,
    fun G w2 hG hl => h.ms (fun k => F k ∨ G k) w2 ((c.mono (fun k hk => Or.inl hk)).trans (hG.mono (fun k hk => Or.inr hk))) (fun k hk => hk.elim (hF k) (hl k)), h.ta⟩
theorem UnT.up {s : Nat} {w w1 : World} {v : Value} {U : UnitA} {g cap : Nat} {M : List (MethA × Value × Value)} (h : UnT s w v U g cap M) (b : Below w.heap.size w w1) : UnT s w1 v U g cap M := h.cg (Cg.below (fun _ => False) b) (fun _ e => e.elim)
theorem UnT.k {s : Nat} {w : World} {v : Value} {U : UnitA} {g cap : Nat} {M : List (MethA × Value × Value)} (h : UnT s w v U g cap M) : UnK w v U := h.un (fun _ => False) w (Cg.refl _ _) (fun _ e => e.elim)
theorem UnT.m {s : Nat} {w : World} {v : Value} {U : UnitA} {g cap : Nat} {M : List (MethA × Value × Value)} (h : UnT s w v U g cap M) {k : Nat} {x : MethA × Value × Value} (hx : M[k]? = some x) : w.cell? ⟨g, k * 4, none⟩ = some (.int .i64 x.1.args) ∧ w.cell? ⟨g, k * 4 + 1, none⟩ = some (.int .i64 x.1.temps) ∧ w.cell? ⟨g, k * 4 + 2, none⟩ = some x.2.1 ∧ w.cell? ⟨g, k * 4 + 3, none⟩ = some x.2.2 ∧ In64 x.1.args ∧ In64 x.1.temps ∧ PrV w x.2.1 x.1.lits ∧ ByV w x.2.2 x.1.code := h.ms (fun _ => False) w (Cg.refl _ _) (fun _ e => e.elim) k x hx
/-- a method of it, by value -/
theorem UnT.me {s : Nat} {w : World} {v : Value} {U : UnitA} {g cap : Nat} {M : List (MethA × Value × Value)} (h : UnT s w v U g cap M) {k : Nat} {x : MethA × Value × Value} (hx : M[k]? = some x) : MeV w (.agg #[.int .i64 x.1.args, .int .i64 x.1.temps, x.2.1, x.2.2]) x.1 := by
  obtain ⟨_, _, _, _, i1, i2, hl, hc⟩ := h.m hx
  obtain ⟨la, lc, e1, _⟩ := hl.form
  obtain ⟨ca, cc, e2, _⟩ := hc.form
  rw [e1] at hl ⊢
  rw [e2] at hc ⊢
  exact MeV.of hl hc i1 i2
theorem UnT.ml {s : Nat} {w : World} {v : Value} {U : UnitA} {g cap : Nat} {M : List (MethA × Value × Value)} (h : UnT s w v U g cap M) : M.length = 9 ∧ U.methods.length = 9 := by
  have := h.ta.ml
  rw [← h.mm] at this
  exact ⟨by simpa using this, h.ta.ml⟩
end Wd
end Go.Proofs.YtgfnelhbdhbklaaGreat

/- What came in, as the form reads it, opened: a program, its rows not too long. -/
namespace Go.Proofs.YtgfnelhbdhbklaaGreat
open Go.ChangeShapes Go.WideShapes Go.ChangeAt Go.RowKit
set_option linter.unusedVariables false
set_option maxRecDepth 100000
namespace Wd
theorem laidOut : laidOutB Tryz.prog = true := by kernel_rfl
theorem cellsI9 : Tryz.prog.cellsOf 3 = 1 := by kernel_rfl
theorem bytesI9 : Tryz.prog.bytesOf 3 = 8 := by kernel_rfl
variable {H : Type} {enc : TypeId × Value → H} {W : World}
/-- numbers that came in -/
theorem nums_raw {n : Nat} {c : Value} {y : DataW H × List MemPlace} (h : DataW.trod enc Tryz.prog W 0 (fun _ => true) true n 29 [c] = some y) : ∃ ad len cap, c = .slice ad len cap ∧ NumA W ad len := by
  rcases DataW.trod_slice Tryz.underlying29 h with ⟨hcs, hx⟩ | ⟨a, len, cap, elems, rest, m, _, hcs, hx, hb, hl, hm, hlen, hel, _, _⟩
  · simp at hcs
    exact ⟨none, 0, 0, hcs, fun k hk => absurd hk (by omega)⟩
  · simp at hcs
    have hsp : 0 < len → a.spot = none := fun h0 => by
      obtain ⟨z, hz⟩ : ∃ z, elems[0]? = some z := ⟨elems[0]'(by omega), by simp⟩
      have hk1 := hel 0 h0
      rw [hz, cellsI9, Option.bind_eq_some_iff] at hk1
      obtain ⟨cs, hc, ht⟩ := hk1
      obtain ⟨_, hcl, hcc⟩ := World.cells?_some hc
      obtain ⟨x, e0, _, w0⟩ := DataW.trod_int Tryz.underlying3 ht
      subst e0
      have hs := World.cell?_spot ((hcc 0 (by omega)).trans (show [Value.int IntKind.i64 x][0]? = some (.int .i64 x) from rfl))
      simpa [Addr.add] using hs
    refine ⟨some a, len, cap, hcs, fun k hk => ?_⟩
    obtain ⟨z, hz⟩ : ∃ z, elems[k]? = some z := ⟨elems[k]'(by omega), by simp⟩
    have hk1 := hel k hk
    rw [hz, cellsI9, Option.bind_eq_some_iff] at hk1
    obtain ⟨cs, hc, ht⟩ := hk1
    obtain ⟨_, hcl, hcc⟩ := World.cells?_some hc
    obtain ⟨x, e0, _, w0⟩ := DataW.trod_int Tryz.underlying3 ht
    subst e0
    have h0 := hcc 0 (by omega)
    obtain ⟨b, off, spot⟩ := a
    have hspot : spot = none := hsp (by omega)
    subst hspot
    simp only [Addr.add_lit, Nat.add_zero, Nat.mul_one] at h0
    exact ⟨b, off, x, rfl, bounds_i64 w0, h0⟩
theorem nums_of {base : Nat} {v : Value} {d : DataW H} {p : List MemPlace} (hv : Value.okWide Tryz.prog W .any base 29 v) (h : DataW.Trod enc Tryz.prog W 0 (fun _ => true) true 29 v d p) : ∃ ad len cap, v = .slice ad len cap ∧ NumA W ad len ∧ ((d = .nil ∧ len = 0) ∨ ∃ elems spare, d = .slice elems spare ∧ len ≤ elems.length) := by
  obtain ⟨a0, len, cap, rfl⟩ := okWide_slice Tryz.underlying29 hv
  obtain ⟨fuel, hf⟩ := h
  obtain ⟨ad, len', cap', e, hN⟩ := nums_raw (c := .slice a0 len cap) (by simpa [Value.cells] using hf)
  cases e
  refine ⟨_, _, _, rfl, hN, ?_⟩
  rcases DataW.trod_slice Tryz.underlying29 hf with ⟨hcs, hx⟩ | ⟨a, len', cap', elems, rest, n, _, hcs, hx, hb, hl, hm, hlen, hel, _, _⟩
  · simp [Value.cells] at hcs
    obtain ⟨rfl, rfl, rfl⟩ := hcs
    simp only [Prod.mk.injEq] at hx
    exact Or.inl ⟨hx.1, rfl⟩
  · simp [Value.cells] at hcs
    obtain ⟨rfl, rfl, rfl⟩ := hcs
    simp only [Prod.mk.injEq] at hx
    exact Or.inr ⟨_, _, hx.1, by simp; omega⟩
end Wd
end Go.Proofs.YtgfnelhbdhbklaaGreat

/- A row of bytes of the call's own, of whatever mark behind its end ('[]byte(s)' leaves one): appended to, from a row, from a text. No program is named here. -/
namespace Go.Proofs.YtgfnelhbdhbklaaGreat
open Go.RowKit
set_option linter.unusedVariables false
namespace Wd
section
variable {P : Program}
theorem run_storeCells_mk (g o : Nat) (t : TypeId) (fr : Nat × Nat) : ∀ (vs : List Value) (i : Nat) (cur : Array Value) (w : World), w.heap[g]? = some (.cells cur t fr) → (cur.size ≤ fr.1 ∨ fr.2 = 0) → o + i + vs.length ≤ cur.size → (∀ v ∈ vs, v.oneCell' = true) →
    (storeCells ⟨g, o, none⟩ vs i).run P w = .ok () (w.setRow g (cur.toList.take (o + i) ++ vs ++ cur.toList.drop (o + i + vs.length)).toArray)
  | [], i, cur, w, hg, _, _, _ => by
    simp only [storeCells, List.append_nil, List.length_nil, Nat.add_zero, List.take_append_drop, Array.toArray_toList]
    rw [setRow_self w g cur t fr hg]
    rfl
  | v :: rest, i, cur, w, hg, hf, hl, h1 => by
    have hi : o + i < cur.size := by simp at hl; omega
    have hadd : (⟨g, o, none⟩ : Addr).add i = ⟨g, o + i, none⟩ := by unfold Addr.add; split <;> simp_all
    have hcell : w.cell? ⟨g, o + i, none⟩ = some cur[o + i] := by simp [World.cell?, hg, hi]
    have hfro : w.frozen? ⟨g, o + i, none⟩ = false := by
      simp only [World.frozen?, hg]
      simp
      omega
    have hst : (store ((⟨g, o, none⟩ : Addr).add i) v).run P w = .ok () (w.setRow g (cur.setIfInBounds (o + i) v)) := by
      rw [hadd, run_store P w _ v _ (h1 v (by simp)), hcell]
      simp [hfro, setCell_eq_setRow w g (o + i) cur t fr v hg]
    have ih := run_storeCells_mk g o t fr rest (i + 1) (cur.setIfInBounds (o + i) v) (w.setRow g (cur.setIfInBounds (o + i) v)) (setRow_heap w g cur _ t _ hg) (by simpa using hf) (by simp at hl ⊢; omega) (fun x hx => h1 x (by simp [hx]))
    simp only [storeCells, Sem.run_bind, hst, Result.andThen_ok, ih, setRow_setRow]
    congr 3
    have e := list_seg_step cur.toList (o + i) v rest (by simp at hl ⊢; omega)
    simpa [Array.toList_setIfInBounds, Nat.add_assoc] using e
/-- a row of its own that is not nil -/
structure RB (w : World) (base : Nat) (e : TypeId) (v : Value) (xs : List Value) : Prop where
  mk ::
  ex : ∃ g cap cur fr, v = .slice (some ⟨g, 0, none⟩) xs.length cap ∧ base ≤ g ∧ w.heap[g]? = some (.cells cur e fr) ∧ (cur.size ≤ fr.1 ∨ fr.2 = 0) ∧ xs.length ≤ cap ∧ cap ≤ maxLen ∧ cur.size = cap ∧ cur.toList.take xs.length = xs
theorem RB.cells {w : World} {base g n cap : Nat} {e : TypeId} {xs : List Value} (h : RB w base e (.slice (some ⟨g, 0, none⟩) n cap) xs) : ∀ j u, xs[j]? = some u → w.cell? ((⟨g, 0, none⟩ : Addr).add j) = some u := by
  obtain ⟨g', cap', cur, fr, e1, _, hg, _, _, _, _, ht⟩ := h.ex
  cases e1
  intro j u hj
  have hadd : (⟨g, 0, none⟩ : Addr).add j = ⟨g, j, none⟩ := by unfold Addr.add; split <;> simp_all
  rw [hadd]
  have hjl := (List.getElem?_eq_some_iff.1 hj).1
  have : cur.toList[j]? = some u := by
    rw [← ht, List.getElem?_take] at hj
    simpa [hjl] using hj
  simp only [World.cell?, hg]
  simpa using this
theorem RB.lt {w : World} {base : Nat} {e : TypeId} {v : Value} {xs : List Value} (h : RB w base e v xs) : ∀ k, v.ownBlock = some k → base ≤ k ∧ k < w.heap.size := by
  obtain ⟨g, cap, cur, fr, rfl, hb, hg, _⟩ := h.ex
  intro k hk
  have e1 : g = k := by simpa [Value.ownBlock] using hk
  subst e1
  exact ⟨hb, (Array.getElem?_eq_some_iff.1 hg).1⟩
theorem RB.kept {w w' : World} {base : Nat} {e : TypeId} {v : Value} {xs : List Value} (h : RB w base e v xs) (hk : ∀ k, v.ownBlock = some k → w'.heap[k]? = w.heap[k]?) : RB w' base e v xs := by
  obtain ⟨g, cap, cur, fr, rfl, hb, hg, r⟩ := h.ex
  exact ⟨g, cap, cur, fr, rfl, hb, (hk g rfl).trans hg, r⟩
variable (w : World)
theorem room_mk (t ty e : TypeId) (i : TypeInfo) (ht : P.underlying t = some (.slice e)) (hi : P.info? e = some i) (hs1 : i.size = 1)
    (g sLen sCap : Nat) (cur : Array Value) (fr : Nat × Nat) (hg : w.heap[g]? = some (.cells cur e fr)) (hf : cur.size ≤ fr.1 ∨ fr.2 = 0)
    (a : Addr) (m c : Nat) (news : List Value) (hl : news.length = m) (hnews : ∀ j u, news[j]? = some u → w.cell? (a.add j) = some u) (h1 : ∀ u ∈ news, u.oneCell' = true)
    (hroom : sLen + m ≤ sCap) (hfit : sLen + news.length ≤ cur.size) :
    (Builtin.append_ #[t, t] ty #[.slice (some ⟨g, 0, none⟩) sLen sCap, .slice (some a) m c]).run P w =
      .ok (.slice (some ⟨g, 0, none⟩) (sLen + m) sCap) (w.setRow g (cur.toList.take sLen ++ news ++ cur.toList.drop (sLen + news.length)).toArray) := by
  have hfc := run_firstCells_some (P := P) w i.size m a m c news (by rw [hs1, Nat.mul_one]; exact hl) hnews
  have hst := run_storeCells_mk (P := P) g sLen e fr news 0 cur w hg hf (by simpa using hfit) h1
  simp only [Nat.add_zero] at hst
  rw [hs1] at hfc
  simp [Builtin.append_, run_underlying ht, sizeOf, typeInfo, hi, hs1, Builtin.lenOf, hroom, hfc, Addr.add_lit, hst]
theorem room_str_mk (t u ty e : TypeId) (i : TypeInfo) (ht : P.underlying t = some (.slice e)) (hu : P.underlying u = some .string) (hi : P.info? e = some i) (hs1 : i.size = 1)
    (g sLen sCap : Nat) (cur : Array Value) (fr : Nat × Nat) (hg : w.heap[g]? = some (.cells cur e fr)) (hf : cur.size ≤ fr.1 ∨ fr.2 = 0) (s : ByteArray)
    (hroom : sLen + s.size ≤ sCap) (hfit : sLen + s.size ≤ cur.size) :
    (Builtin.append_ #[t, u] ty #[.slice (some ⟨g, 0, none⟩) sLen sCap, .string s]).run P w =
      .ok (.slice (some ⟨g, 0, none⟩) (sLen + s.size) sCap) (w.setRow g (cur.toList.take sLen ++ Lib.strCells s ++ cur.toList.drop (sLen + s.size)).toArray) := by
  have hfc := Lib.run_firstCells_string (P := P) w 1 s
  have hst := run_storeCells_mk (P := P) g sLen e fr (Lib.strCells s) 0 cur w hg hf (by simpa [Lib.strCells_length] using hfit) (Lib.strCells_oneCell s)
  simp only [Nat.add_zero, Lib.strCells_length] at hst
  simp [Builtin.append_, run_underlying ht, run_underlying hu, sizeOf, typeInfo, hi, hs1, Builtin.lenOf, hroom, hfc, Addr.add_lit, hst]
theorem grown_mk (base : Nat) (e : TypeId) (z : Value) (hz1 : z.cells.size = 1) (xs news : List Value) (hbase : base ≤ w.heap.size) (h63 : xs.length + news.length ≤ maxLen) (old : Nat) (row : Option Nat) :
    RB (w.drew.alloc (.cells (xs.toArray ++ news.toArray ++ Builtin.zeroCells z.cells (grownCap w (xs.length + news.length) old e - (xs.length + news.length))) e)) base e
        (.slice (some ⟨w.heap.size, 0, none⟩) (xs.length + news.length) (grownCap w (xs.length + news.length) old e)) (xs ++ news) ∧
      w.grownBy (w.drew.alloc (.cells (xs.toArray ++ news.toArray ++ Builtin.zeroCells z.cells (grownCap w (xs.length + news.length) old e - (xs.length + news.length))) e)) row := by
  have hge := grownCap_ge w (xs.length + news.length) old e
  have hcm : grownCap w (xs.length + news.length) old e ≤ maxLen := grownCap_le_maxLen w (xs.length + news.length) old e h63
  refine ⟨⟨w.heap.size, _, _, (0, 0), by rw [List.length_append], hbase, heap_alloc_new w.drew _, Or.inr rfl, by rw [List.length_append]; exact hge, hcm, ?_, ?_⟩, ⟨rfl, rfl, rfl, by simp, fun k hk _ => heap_alloc_old w.drew _ hk⟩⟩
  · simp only [Array.size_append, List.size_toArray, size_zeroCells, hz1]
    omega
  · simp only [Array.toList_append, List.append_assoc]
    rw [← List.append_assoc]
    exact List.take_left
/-- appended to, from a row -/
theorem run_app_rb (base : Nat) (t ty e : TypeId) (i : TypeInfo) (z : Value) (ht : P.underlying t = some (.slice e)) (hi : P.info? e = some i) (hz : i.zero = some z)
    (hsize : i.size = 1) (hby : i.bytes = 1) (hz1 : z.cells.size = 1)
    (v : Value) (xs : List Value) (hown : RB w base e v xs)
    (a : Addr) (m c : Nat) (news : List Value) (hl : news.length = m) (hnews : ∀ j u, news[j]? = some u → w.cell? (a.add j) = some u) (h1 : ∀ u ∈ news, u.oneCell' = true)
    (h63 : xs.length + m ≤ maxLen) (hbytes : xs.length + m ≤ 140737488355328) (hbase : base ≤ w.heap.size) :
    ∃ v' w', (Builtin.append_ #[t, t] ty #[v, .slice (some a) m c]).run P w = .ok v' w' ∧ RB w' base e v' (xs ++ news) ∧ w.grownBy w' v.ownBlock ∧
      (v'.ownBlock = v.ownBlock ∨ v'.ownBlock = some w.heap.size) := by
  subst hl
  have hown0 := hown
  obtain ⟨g, cap, cur, fr, rfl, hbg, hg, hfr, hnc, hcm, hcs, htake⟩ := hown.ex
  have hsmall : xs.length + news.length ≤ 9223372036854775807 := by simp only [maxLen] at h63; omega
  by_cases hroom : xs.length + news.length ≤ cap
  · have hr := room_mk (P := P) w t ty e i ht hi hsize g xs.length cap cur fr hg hfr a news.length c news rfl hnews h1 hroom (by omega)
    refine ⟨_, _, hr, ⟨g, cap, _, fr, by rw [List.length_append], hbg, setRow_heap w g cur _ e _ hg, ?_, by rw [List.length_append]; exact hroom, hcm, ?_, ?_⟩, ⟨rfl, rfl, rfl, by simp, fun k _ hk => setRow_other w g k _ (fun e => hk (by simp [Value.ownBlock, e]))⟩, Or.inl rfl⟩
    · rcases hfr with h | h
      · left
        simp only [List.size_toArray, List.length_append, List.length_take, List.length_drop, Array.length_toList]
        omega
      · exact Or.inr h
    · simp only [List.size_toArray, List.length_append, List.length_take, List.length_drop, Array.length_toList]
      omega
    · rw [htake]
      exact List.take_left
  · have hr := run_append_grow (P := P) w t ty e i z ht hi hz ⟨g, 0, none⟩ xs.length cap xs (by rw [hsize, Nat.mul_one]) hown0.cells a news.length c news (by rw [hsize, Nat.mul_one]) hnews (by omega) (by omega) (growslice_fits (by omega) (by rw [hby, Nat.mul_one]; exact hbytes))
    have hgr := grown_mk w base e z hz1 xs news hbase h63 cap (Value.ownBlock (.slice (some ⟨g, 0, none⟩) xs.length cap))
    exact ⟨_, _, hr, hgr.1, hgr.2, Or.inr rfl⟩
/-- .. from a text -/
theorem run_app_rbs (base : Nat) (t u ty e : TypeId) (i : TypeInfo) (ht : P.underlying t = some (.slice e)) (hu : P.underlying u = some .string) (hi : P.info? e = some i) (hz : i.zero = some (.int .u8 0))
    (hsize : i.size = 1) (hby : i.bytes = 1)
    (v : Value) (xs : List Value) (hown : RB w base e v xs) (s : ByteArray)
    (h63 : xs.length + s.size ≤ maxLen) (hbytes : xs.length + s.size ≤ 140737488355328) (hbase : base ≤ w.heap.size) :
    ∃ v' w', (Builtin.append_ #[t, u] ty #[v, .string s]).run P w = .ok v' w' ∧ RB w' base e v' (xs ++ Lib.strCells s) ∧ w.grownBy w' v.ownBlock ∧
      (v'.ownBlock = v.ownBlock ∨ v'.ownBlock = some w.heap.size) := by
  have hown0 := hown
  obtain ⟨g, cap, cur, fr, rfl, hbg, hg, hfr, hnc, hcm, hcs, htake⟩ := hown.ex
  have hsl := Lib.strCells_length s
  have hsmall : xs.length + s.size ≤ 9223372036854775807 := by simp only [maxLen] at h63; omega
  by_cases hroom : xs.length + s.size ≤ cap
  · have hr := room_str_mk (P := P) w t u ty e i ht hu hi hsize g xs.length cap cur fr hg hfr s hroom (by omega)
    refine ⟨_, _, hr, ⟨g, cap, _, fr, by rw [List.length_append, hsl], hbg, setRow_heap w g cur _ e _ hg, ?_, by rw [List.length_append, hsl]; exact hroom, hcm, ?_, ?_⟩, ⟨rfl, rfl, rfl, by simp, fun k _ hk => setRow_other w g k _ (fun e => hk (by simp [Value.ownBlock, e]))⟩, Or.inl rfl⟩
    · rcases hfr with h | h
      · left
        simp only [List.size_toArray, List.length_append, List.length_take, List.length_drop, Array.length_toList, hsl]
        omega
      · exact Or.inr h
    · simp only [List.size_toArray, List.length_append, List.length_take, List.length_drop, Array.length_toList, hsl]
      omega
    · rw [htake]
      exact List.take_left
  · have hr := Lib.run_append_grow_string (P := P) w t u ty e i (.int .u8 0) ht hu hi hz ⟨g, 0, none⟩ xs.length cap xs (by rw [hsize, Nat.mul_one]) hown0.cells s (by omega) (by omega) (by rw [hby]; exact growslice_fits (by omega) (by omega))
    have hgr := grown_mk w base e (.int .u8 0) rfl xs (Lib.strCells s) hbase (by rw [hsl]; exact h63) cap (Value.ownBlock (.slice (some ⟨g, 0, none⟩) xs.length cap))
    rw [hsl] at hgr
    exact ⟨_, _, hr, hgr.1, hgr.2, Or.inr rfl⟩
end
end Wd
end Go.Proofs.YtgfnelhbdhbklaaGreat

/- A program as bytes, written: a number, a text. -/
namespace Go.Proofs.YtgfnelhbdhbklaaGreat
open Go.RowKit
set_option linter.unusedVariables false
set_option maxRecDepth 20000
namespace Wd
theorem wpList_app_rb {P : Program} {w : World} {ops : Array Oper} {rest : List Oper} {o : Oper} {a : Act} {Q : Exit → Act → World → Prop} (hgd : o.guard = none) (s x : Operand) (t : TypeId)
    (ho : o.op = .call { callee := .builtin .append, args := #[s, x], argTypes := #[t, t] })
    (base : Nat) (e : TypeId) (i : TypeInfo) (z : Value) (ht : P.underlying t = some (.slice e)) (hi : P.info? e = some i) (hz : i.zero = some z)
    (hsize : i.size = 1) (hby : i.bytes = 1) (hzs : z.cells.size = 1)
    (v : Value) (xs : List Value) (hs : a.eval s = v) (hown : RB w base e v xs)
    (ad : Addr) (m c : Nat) (news : List Value) (hx : a.eval x = .slice (some ad) m c) (hl : news.length = m) (hnews : ∀ j u, news[j]? = some u → w.cell? (ad.add j) = some u) (h1 : ∀ u ∈ news, u.oneCell' = true)
    (h63 : xs.length + m ≤ maxLen) (hbytes : xs.length + m ≤ 140737488355328) (hbase : base ≤ w.heap.size)
    (h : ∀ v' w', RB w' base e v' (xs ++ news) → w.grownBy w' v.ownBlock → (v'.ownBlock = v.ownBlock ∨ v'.ownBlock = some w.heap.size) → wpList P ops Q rest (a.put o.dst v') w') : wpList P ops Q (o :: rest) a w := by
  refine wpList_plain hgd fun K hK => ?_
  obtain ⟨v', w', hr, h2, h3, h5⟩ := run_app_rb (P := P) w base t o.type e i z ht hi hz hsize hby hzs v xs hown ad m c news hl hnews h1 h63 hbytes hbase
  unfold Oper.wp execOp
  simp only [ho, resolve, invoke, builtin, Sem.run_bind, Sem.run_pure, Result.andThen_ok, List.map_toArray, List.map_cons, List.map_nil, hs, hx, hr]
  exact hK _ _ (h v' w' h2 h3 h5)
theorem wpList_app_rbs {P : Program} {w : World} {ops : Array Oper} {rest : List Oper} {o : Oper} {a : Act} {Q : Exit → Act → World → Prop} (hgd : o.guard = none) (s x : Operand) (t u : TypeId)
    (ho : o.op = .call { callee := .builtin .append, args := #[s, x], argTypes := #[t, u] })
    (base : Nat) (e : TypeId) (i : TypeInfo) (ht : P.underlying t = some (.slice e)) (hu : P.underlying u = some .string) (hi : P.info? e = some i) (hz : i.zero = some (.int .u8 0))
    (hsize : i.size = 1) (hby : i.bytes = 1)
    (v : Value) (xs : List Value) (hs : a.eval s = v) (hown : RB w base e v xs) (b : ByteArray) (hx : a.eval x = .string b)
    (h63 : xs.length + b.size ≤ maxLen) (hbytes : xs.length + b.size ≤ 140737488355328) (hbase : base ≤ w.heap.size)
    (h : ∀ v' w', RB w' base e v' (xs ++ Lib.strCells b) → w.grownBy w' v.ownBlock → (v'.ownBlock = v.ownBlock ∨ v'.ownBlock = some w.heap.size) → wpList P ops Q rest (a.put o.dst v') w') : wpList P ops Q (o :: rest) a w := by
  refine wpList_plain hgd fun K hK => ?_
  obtain ⟨v', w', hr, h2, h3, h5⟩ := run_app_rbs (P := P) w base t u o.type e i ht hu hi hz hsize hby v xs hown b h63 hbytes hbase
  unfold Oper.wp execOp
  simp only [ho, resolve, invoke, builtin, Sem.run_bind, Sem.run_pure, Result.andThen_ok, List.map_toArray, List.map_cons, List.map_nil, hs, hx, hr]
  exact hK _ _ (h v' w' h2 h3 h5)
theorem bys_cat (A B : List Int) : bys (A ++ B) = bys A ++ bys B := by simp [bys]
theorem bys_ln (L : List Int) : (bys L).length = L.length := by simp [bys]
theorem bys_four {w : World} {g : Nat} {x y z u : Int} (h0 : w.cell? ⟨g, 0, none⟩ = some (.int .u8 x)) (h1 : w.cell? ⟨g, 1, none⟩ = some (.int .u8 y)) (h2 : w.cell? ⟨g, 2, none⟩ = some (.int .u8 z)) (h3 : w.cell? ⟨g, 3, none⟩ = some (.int .u8 u)) : ∀ j c, (bys [x, y, z, u])[j]? = some c → w.cell? ((⟨g, 0, none⟩ : Addr).add j) = some c := by
  intro j c hc
  match j, hc with
  | 0, hc => simp [bys] at hc; subst hc; rw [Addr.add_lit]; exact h0
  | 1, hc => simp [bys] at hc; subst hc; rw [Addr.add_lit]; exact h1
  | 2, hc => simp [bys] at hc; subst hc; rw [Addr.add_lit]; exact h2
  | 3, hc => simp [bys] at hc; subst hc; rw [Addr.add_lit]; exact h3
/-- what was written: a row, from a row of another world -/
structure Wr (base : Nat) (w w' : World) (v v' : Value) (L : List Int) : Prop where
  rb : RB w' base 5 v' (bys L)
  cg : Cg (fun k => v.ownBlock = some k) w w'
  ob : ∀ k, v'.ownBlock = some k → v.ownBlock = some k ∨ w.heap.size ≤ k
theorem Wr.refl {base : Nat} {w : World} {v : Value} {L : List Int} (h : RB w base 5 v (bys L)) : Wr base w w v v L := ⟨h, Cg.refl _ _, fun k hk => Or.inl hk⟩
theorem Wr.trans {base : Nat} {w w1 w2 : World} {v v1 v2 : Value} {L M : List Int} (h : Wr base w w1 v v1 L) (g : Wr base w1 w2 v1 v2 M) : Wr base w w2 v v2 M :=
  ⟨g.rb, h.cg.trans' g.cg (fun k hk => h.ob k hk), fun k hk => by
    rcases g.ob k hk with e | e
    · exact h.ob k e
    · exact Or.inr (Nat.le_trans h.cg.size e)⟩
end Wd
end Go.Proofs.YtgfnelhbdhbklaaGreat

/- Programs as bytes: what is written, and how it is read; no program is walked here. -/
namespace Go.Proofs.YtgfnelhbdhbklaaGreat
open Go.RowKit
set_option linter.unusedVariables false
set_option maxRecDepth 20000
namespace Wd
/-- a number as four bytes, the highest first -/
def b4 (n : Int) : List Int := [n % 4294967296 / 16777216, n % 4294967296 / 65536 % 256, n % 4294967296 / 256 % 256, n % 4294967296 % 256]
def i32 (n : Int) : Int := if n < 2147483648 then n else n - 4294967296
def num4 (a b c d : Int) : Int := i32 (a * 16777216 + b * 65536 + c * 256 + d)
def R32 (n : Int) : Prop := -2147483648 ≤ n ∧ n < 2147483648
theorem b4_len (n : Int) : (b4 n).length = 4 := rfl
theorem b4_bd (n : Int) : ∀ x ∈ b4 n, 0 ≤ x ∧ x ≤ 255 := by
  intro x hx
  simp only [b4, List.mem_cons, List.not_mem_nil, or_false] at hx
  rcases hx with rfl | rfl | rfl | rfl <;> omega
theorem num_b4 {n : Int} (h : R32 n) : num4 (n % 4294967296 / 16777216) (n % 4294967296 / 65536 % 256) (n % 4294967296 / 256 % 256) (n % 4294967296 % 256) = n := by
  obtain ⟨h1, h2⟩ := h
  unfold num4 i32
  have e : n % 4294967296 / 16777216 * 16777216 + n % 4294967296 / 65536 % 256 * 65536 + n % 4294967296 / 256 % 256 * 256 + n % 4294967296 % 256 = n % 4294967296 := by omega
  rw [e]
  split <;> omega
/-- a text's bytes -/
def tby (s : ByteArray) : List Int := s.data.toList.map (fun b => (b.toNat : Int))
theorem tby_len (s : ByteArray) : (tby s).length = s.size := by
  unfold tby
  rw [List.length_map, Array.length_toList]; rfl
theorem tby_bd (s : ByteArray) : ∀ x ∈ tby s, 0 ≤ x ∧ x ≤ 255 := by
  intro x hx
  obtain ⟨b, _, rfl⟩ := List.mem_map.1 hx
  have := b.toNat_lt
  omega
theorem tby_text (s : ByteArray) : textOf (tby s) = s := by
  apply ByteArray.ext
  unfold textOf byteL tby
  simp only [List.map_map]
  have : ((fun x : Int => UInt8.ofNat x.toNat) ∘ fun b : UInt8 => (b.toNat : Int)) = id := by
    funext b
    simp
  rw [this]
  simp
def txt (s : ByteArray) : List Int := b4 s.size ++ tby s
def prs (L : List (Int × Int)) : List Int := (L.map (fun v => b4 v.1 ++ b4 v.2)).flatten
def rowP (L : List (Int × Int)) : List Int := b4 L.length ++ prs L
def clB (c : ClassA) : List Int := txt c.nm ++ b4 c.super ++ b4 c.fields ++ rowP c.binds
def mtB (m : MethA) : List Int := b4 m.args ++ b4 m.temps ++ rowP m.lits ++ (b4 m.code.length ++ m.code)
def obB (o : ObjA) : List Int := b4 o.cls ++ rowP o.flds
def rowB {T : Type} (f : T → List Int) (L : List T) : List Int := b4 L.length ++ (L.map f).flatten
/-- all of it behind the first four bytes -/
def bodyU (U : UnitA) : List Int := rowB txt U.names ++ rowB clB U.classes ++ rowB mtB U.methods ++ rowB obB U.objects ++ b4 U.main
def bytesU (U : UnitA) : List Int := [84, 87, 49, 0] ++ bodyU U
/-- a reader: what is still to come, and whether it fell -/
abbrev Rd8 := List Int × Bool
def numR : Rd8 → Int × Rd8
  | (a :: b :: c :: d :: L, false) => (num4 a b c d, (L, false))
  | (L, _) => (0, (L, true))
def cntR (s : Rd8) : Int × Rd8 := let x := numR s; if x.1 < 0 ∨ (x.2.1.length : Int) < x.1 then (0, (x.2.1, true)) else x
def txtR (s : Rd8) : List Int × Rd8 := let x := cntR s; (x.2.1.take x.1.toNat, (x.2.1.drop x.1.toNat, x.2.2))
/-- so many of them, as long as it didn't fall -/
def manyR {T : Type} (f : Rd8 → T × Rd8) : Nat → List T → Rd8 → List T × Rd8
  | 0, acc, s => (acc, s)
  | n + 1, acc, s => if s.2 = true then (acc, s) else let x := f s; manyR f n (acc ++ [x.1]) x.2
def rowR {T : Type} (f : Rd8 → T × Rd8) (s : Rd8) : List T × Rd8 := let x := cntR s; manyR f x.1.toNat [] x.2
def prR (s : Rd8) : (Int × Int) × Rd8 := let x := numR s; let y := numR x.2; ((x.1, y.1), y.2)
def nmR (s : Rd8) : ByteArray × Rd8 := let x := txtR s; (textOf x.1, x.2)
def clR (s : Rd8) : ClassA × Rd8 := let a := nmR s; let b := numR a.2; let c := numR b.2; let d := rowR prR c.2; (⟨a.1, b.1, c.1, d.1⟩, d.2)
def mtR (s : Rd8) : MethA × Rd8 := let a := numR s; let b := numR a.2; let c := rowR prR b.2; let d := txtR c.2; (⟨a.1, b.1, c.1, d.1⟩, d.2)
def obR (s : Rd8) : ObjA × Rd8 := let a := numR s; let b := rowR prR a.2; (⟨a.1, b.1⟩, b.2)
def unR (s : Rd8) : UnitA × Rd8 := let a := rowR nmR s; let b := rowR clR a.2; let c := rowR mtR b.2; let d := rowR obR c.2; let e := numR d.2; (⟨a.1, b.1, c.1, d.1, e.1⟩, e.2)
theorem numR_b4 {n : Int} (h : R32 n) (L : List Int) : numR (b4 n ++ L, false) = (n, (L, false)) := by
  show (num4 _ _ _ _, (L, false)) = _
  rw [num_b4 h]
theorem cntR_b4 (n : Nat) (L : List Int) (h : n ≤ L.length) (h32 : n < 2147483648) : cntR (b4 n ++ L, false) = ((n : Int), (L, false)) := by
  unfold cntR
  rw [numR_b4 ⟨by omega, by omega⟩]
  simp only
  rw [if_neg (by omega)]
theorem txtR_b4 (A L : List Int) (h32 : A.length < 2147483648) : txtR (b4 A.length ++ (A ++ L), false) = (A, (L, false)) := by
  unfold txtR
  rw [cntR_b4 A.length (A ++ L) (by rw [List.length_append]; omega) h32]
  simp
theorem nmR_txt (s : ByteArray) (L : List Int) (h32 : s.size < 2147483648) : nmR (txt s ++ L, false) = (s, (L, false)) := by
  unfold nmR txt
  rw [List.append_assoc]
  have h := txtR_b4 (tby s) L (by rw [tby_len]; exact h32)
  rw [tby_len] at h
  rw [h]
  simp only
  rw [tby_text]
theorem prR_b4 {v : Int × Int} (h : R32 v.1 ∧ R32 v.2) (L : List Int) : prR (b4 v.1 ++ b4 v.2 ++ L, false) = (v, (L, false)) := by
  unfold prR
  rw [List.append_assoc, numR_b4 h.1]
  simp only
  rw [numR_b4 h.2]
theorem manyR_app {T : Type} {f : Rd8 → T × Rd8} {g : T → List Int} : ∀ (X A : List T) (L : List Int), (∀ x ∈ X, ∀ L, f (g x ++ L, false) = (x, (L, false))) → manyR f X.length A ((X.map g).flatten ++ L, false) = (A ++ X, (L, false))
  | [], A, L, _ => by simp [manyR]
  | x :: X, A, L, h => by
    rw [List.length_cons, manyR, if_neg (by simp), List.map_cons, List.flatten_cons, List.append_assoc, h x (List.mem_cons_self ..)]
    simp only
    rw [manyR_app X (A ++ [x]) L (fun y hy => h y (List.mem_cons_of_mem _ hy)), List.append_assoc, List.singleton_append]
theorem flatB_len {T : Type} {g : T → List Int} : ∀ (X : List T), (∀ x ∈ X, 1 ≤ (g x).length) → X.length ≤ ((X.map g).flatten).length
  | [], _ => by simp
  | x :: X, h => by
    have h1 := h x (List.mem_cons_self ..)
    have h2 := flatB_len X (fun y hy => h y (List.mem_cons_of_mem _ hy))
    rw [List.map_cons, List.flatten_cons, List.length_append, List.length_cons]
    omega
theorem rowR_rowB {T : Type} {f : Rd8 → T × Rd8} {g : T → List Int} (X : List T) (L : List Int) (h : ∀ x ∈ X, ∀ L, f (g x ++ L, false) = (x, (L, false))) (h1 : ∀ x ∈ X, 1 ≤ (g x).length) (h32 : X.length < 2147483648) : rowR f (rowB g X ++ L, false) = (X, (L, false)) := by
  unfold rowR rowB
  rw [List.append_assoc, cntR_b4 X.length _ (by rw [List.length_append]; have := flatB_len X h1; omega) h32]
  simp only
  rw [Int.toNat_natCast, manyR_app X [] L h]
  rfl
theorem rowP_eq (L : List (Int × Int)) : rowP L = rowB (fun v => b4 v.1 ++ b4 v.2) L := rfl
/-- numbers that go into four bytes -/
structure Fit (U : UnitA) : Prop where
  nn : U.names.length < 2147483648
  ns : ∀ s ∈ U.names, s.size < 2147483648
  nc : U.classes.length < 2147483648
  cs : ∀ c ∈ U.classes, c.nm.size < 2147483648 ∧ R32 c.super ∧ R32 c.fields ∧ c.binds.length < 2147483648 ∧ ∀ v ∈ c.binds, R32 v.1 ∧ R32 v.2
  nm : U.methods.length < 2147483648
  ms : ∀ m ∈ U.methods, R32 m.args ∧ R32 m.temps ∧ m.lits.length < 2147483648 ∧ (∀ v ∈ m.lits, R32 v.1 ∧ R32 v.2) ∧ m.code.length < 2147483648
  no : U.objects.length < 2147483648
  os : ∀ o ∈ U.objects, R32 o.cls ∧ o.flds.length < 2147483648 ∧ ∀ v ∈ o.flds, R32 v.1 ∧ R32 v.2
  mn : R32 U.main
theorem rowP_R {X : List (Int × Int)} (L : List Int) (h : ∀ v ∈ X, R32 v.1 ∧ R32 v.2) (h32 : X.length < 2147483648) : rowR prR (rowP X ++ L, false) = (X, (L, false)) := by
  rw [rowP_eq]
  exact rowR_rowB X L (fun v hv L => prR_b4 (h v hv) L) (fun v _ => by simp [b4]) h32
theorem clR_clB {c : ClassA} (h : c.nm.size < 2147483648 ∧ R32 c.super ∧ R32 c.fields ∧ c.binds.length < 2147483648 ∧ ∀ v ∈ c.binds, R32 v.1 ∧ R32 v.2) (L : List Int) : clR (clB c ++ L, false) = (c, (L, false)) := by
  obtain ⟨h1, h2, h3, h4, h5⟩ := h
  unfold clR clB
  rw [List.append_assoc, List.append_assoc, List.append_assoc, nmR_txt _ _ h1]
  simp only
  rw [numR_b4 h2]
  simp only
  rw [numR_b4 h3]
  simp only
  rw [rowP_R L h5 h4]
theorem mtR_mtB {m : MethA} (h : R32 m.args ∧ R32 m.temps ∧ m.lits.length < 2147483648 ∧ (∀ v ∈ m.lits, R32 v.1 ∧ R32 v.2) ∧ m.code.length < 2147483648) (L : List Int) : mtR (mtB m ++ L, false) = (m, (L, false)) := by
  obtain ⟨h1, h2, h3, h4, h5⟩ := h
  unfold mtR mtB
  rw [List.append_assoc, List.append_assoc, List.append_assoc, numR_b4 h1]
  simp only
  rw [numR_b4 h2]
  simp only
  rw [rowP_R _ h4 h3]
  simp only
  rw [List.append_assoc, txtR_b4 _ _ h5]
theorem obR_obB {o : ObjA} (h : R32 o.cls ∧ o.flds.length < 2147483648 ∧ ∀ v ∈ o.flds, R32 v.1 ∧ R32 v.2) (L : List Int) : obR (obB o ++ L, false) = (o, (L, false)) := by
  obtain ⟨h1, h2, h3⟩ := h
  unfold obR obB
  rw [List.append_assoc, numR_b4 h1]
  simp only
  rw [rowP_R _ h3 h2]
/-- what was written is read -/
theorem unR_body {U : UnitA} (h : Fit U) : unR (bodyU U, false) = (U, ([], false)) := by
  unfold unR bodyU
  rw [List.append_assoc, List.append_assoc, List.append_assoc, rowR_rowB U.names _ (fun s hs L => nmR_txt s L (h.ns s hs)) (fun s _ => by simp [txt, b4]) h.nn]
  simp only
  rw [rowR_rowB U.classes _ (fun c hc L => clR_clB (h.cs c hc) L) (fun c _ => by simp [clB, txt, b4]) h.nc]
  simp only
  rw [rowR_rowB U.methods _ (fun c hc L => mtR_mtB (h.ms c hc) L) (fun c _ => by simp [mtB, b4]) h.nm]
  simp only
  rw [rowR_rowB U.objects _ (fun c hc L => obR_obB (h.os c hc) L) (fun c _ => by simp [obB, b4]) h.no]
  simp only
  have := numR_b4 h.mn []
  rw [List.append_nil] at this
  rw [this]
end Wd
end Go.Proofs.YtgfnelhbdhbklaaGreat

/- A program as bytes, written: a text, a row of pairs. -/
namespace Go.Proofs.YtgfnelhbdhbklaaGreat
open Go.RowKit
set_option linter.unusedVariables false
set_option maxRecDepth 20000
namespace Wd
theorem strB (s : ByteArray) : Lib.strCells s = bys (tby s) := by
  unfold bys tby Lib.strCells
  rw [List.map_map]
  rfl
end Wd
end Go.Proofs.YtgfnelhbdhbklaaGreat

/- A program as bytes, written: a row of pairs. -/
namespace Go.Proofs.YtgfnelhbdhbklaaGreat
open Go.RowKit
set_option linter.unusedVariables false
set_option maxRecDepth 20000
namespace Wd
theorem wr_bel {wu w w1 : World} {F : Nat → Prop} {Q : Nat} (c : Cg F w w1) (hF : ∀ k, F k → Q ≤ k) (hq : wu.heap.size ≤ Q) (b : Below wu.heap.size wu w) : Below wu.heap.size wu w1 :=
  ⟨c.os.trans b.os, c.tape.trans b.tape, c.output.trans b.output, Nat.le_trans b.size c.size, fun k hk => (c.block k (Nat.lt_of_lt_of_le hk b.size) (fun hf => by have := hF k hf; omega)).trans (b.block k hk)⟩
theorem Wr.app {base : Nat} {w w1 : World} {v v1 : Value} {L : List Int} (h : Wr base w w1 v v1 L) (o : Obj) : Wr base w (w1.alloc o) v v1 L :=
  ⟨h.rb.kept (fun k hk => ((Below.refl w1.heap.size w1).alloc (Nat.le_refl _) o).block k (h.rb.lt k hk).2), h.cg.alloc o, h.ob⟩
theorem Wr.drew {base : Nat} {w w1 : World} {v v1 : Value} {L : List Int} (h : Wr base w w1 v v1 L) : Wr base w w1.drew v v1 L :=
  ⟨h.rb.kept (fun k hk => rfl), h.cg.drew, h.ob⟩
theorem cell_heap {w w1 : World} {g : Nat} (h : w1.heap[g]? = w.heap[g]?) (o : Nat) : w1.cell? ⟨g, o, none⟩ = w.cell? ⟨g, o, none⟩ := by
  unfold World.cell?
  rw [h]
end Wd
end Go.Proofs.YtgfnelhbdhbklaaGreat

/- A program as bytes, written: what lies where while it is written. -/
namespace Go.Proofs.YtgfnelhbdhbklaaGreat
open Go.RowKit
set_option linter.unusedVariables false
set_option maxRecDepth 20000
namespace Wd
def fl {T : Type} (f : T → List Int) (L : List T) : List Int := (L.map f).flatten
theorem fl_next {T : Type} {f : T → List Int} {L : List T} {k : Nat} {x : T} (h : L[k]? = some x) : fl f (L.take (k + 1)) = fl f (L.take k) ++ f x := by
  unfold fl
  rw [List.take_add_one, h]
  simp
theorem fl_take {T : Type} {f : T → List Int} (L : List T) (k : Nat) : (fl f (L.take k)).length ≤ (fl f L).length := by
  have h : fl f L = fl f (L.take k) ++ fl f (L.drop k) := by
    unfold fl
    rw [← List.flatten_append, ← List.map_append, List.take_append_drop]
  rw [h, List.length_append]
  omega
theorem fl_at {T : Type} {f : T → List Int} {L : List T} {k : Nat} {x : T} (h : L[k]? = some x) : (fl f (L.take k)).length + (f x).length ≤ (fl f L).length := by
  have h1 := fl_take (f := f) L (k + 1)
  rw [fl_next h, List.length_append] at h1
  exact h1
theorem rowB_fl {T : Type} (f : T → List Int) (L : List T) : rowB f L = b4 L.length ++ fl f L := rfl
/-- while a program is written: its box, what was written so far -/
structure BY (w wr : World) (n0 n1 n2 n3 : Value) (m : Int) (v : Value) (L : List Int) : Prop where
  rb : RB wr (w.heap.size + 1) 5 v (bys L)
  bel : Below w.heap.size w wr
  sz : w.heap.size + 1 ≤ wr.heap.size
  c0 : wr.cell? ⟨w.heap.size, 0, none⟩ = some n0
  c1 : wr.cell? ⟨w.heap.size, 1, none⟩ = some n1
  c2 : wr.cell? ⟨w.heap.size, 2, none⟩ = some n2
  c3 : wr.cell? ⟨w.heap.size, 3, none⟩ = some n3
  c4 : wr.cell? ⟨w.heap.size, 4, none⟩ = some (.int .i64 m)
section
variable {w wr w1 : World} {n0 n1 n2 n3 v v1 : Value} {m : Int} {L M : List Int}
theorem BY.step (h : BY w wr n0 n1 n2 n3 m v L) (g : Wr (w.heap.size + 1) wr w1 v v1 M) : BY w w1 n0 n1 n2 n3 m v1 M := by
  have hb := g.cg.block w.heap.size h.sz (fun e => by have := (h.rb.lt _ e).1; omega)
  exact ⟨g.rb, wr_bel g.cg (fun k hk => (h.rb.lt k hk).1) (by omega) h.bel, Nat.le_trans h.sz g.cg.size, (cell_heap hb 0).trans h.c0, (cell_heap hb 1).trans h.c1, (cell_heap hb 2).trans h.c2, (cell_heap hb 3).trans h.c3, (cell_heap hb 4).trans h.c4⟩
theorem BY.up (h : BY w wr n0 n1 n2 n3 m v L) (b : Below wr.heap.size wr w1) : BY w w1 n0 n1 n2 n3 m v L := by
  have hb := b.block w.heap.size h.sz
  exact ⟨h.rb.kept (fun k hk => b.block k (h.rb.lt k hk).2), h.bel.trans (b.mono h.bel.size), Nat.le_trans h.sz b.size, (cell_heap hb 0).trans h.c0, (cell_heap hb 1).trans h.c1, (cell_heap hb 2).trans h.c2, (cell_heap hb 3).trans h.c3, (cell_heap hb 4).trans h.c4⟩
theorem BY.five (h : BY w wr n0 n1 n2 n3 m v L) : wr.cell? ⟨w.heap.size, 0, none⟩ = some n0 ∧ wr.cell? ⟨w.heap.size, 1, none⟩ = some n1 ∧ wr.cell? ⟨w.heap.size, 2, none⟩ = some n2 ∧ wr.cell? ⟨w.heap.size, 3, none⟩ = some n3 ∧ wr.cell? ⟨w.heap.size, 4, none⟩ = some (.int .i64 m) := ⟨h.c0, h.c1, h.c2, h.c3, h.c4⟩
end
/-- .. and an element's own copy -/
structure BE (w y : World) (n0 n1 n2 n3 : Value) (m : Int) (E : Nat) (C : List Value) (v : Value) (L : List Int) : Prop where
  st : BY w y n0 n1 n2 n3 m v L
  lo : w.heap.size + 1 ≤ E
  lt : E < y.heap.size
  ne : v.ownBlock ≠ some E
  ks : ∀ o x, C[o]? = some x → y.cell? ⟨E, o, none⟩ = some x
section
variable {w wr w1 : World} {n0 n1 n2 n3 v v1 : Value} {m : Int} {L M : List Int} {E : Nat} {C : List Value}
theorem BE.born (h : BY w wr n0 n1 n2 n3 m v L) (T : TypeId) (C : List Value) (D : Array Value) (hD : D.toList = C) : BE w (wr.alloc (.cells D T)) n0 n1 n2 n3 m wr.heap.size C v L :=
  ⟨h.up ((Below.refl wr.heap.size wr).alloc (Nat.le_refl _) _), h.sz, by simp, fun e => by have := (h.rb.lt _ e).2; omega, fun o x hx => by
    subst hD
    exact (World.cell?_alloc_new _ _ _ o).trans (by simpa using hx)⟩
theorem BE.step (h : BE w wr n0 n1 n2 n3 m E C v L) (g : Wr (w.heap.size + 1) wr w1 v v1 M) : BE w w1 n0 n1 n2 n3 m E C v1 M :=
  ⟨h.st.step g, h.lo, Nat.lt_of_lt_of_le h.lt g.cg.size, fun e => by
    rcases g.ob _ e with e | e
    · exact h.ne e
    · have := h.lt; omega, fun o x hx => (cell_heap (g.cg.block E h.lt h.ne) o).trans (h.ks o x hx)⟩
theorem BE.drew (h : BE w wr n0 n1 n2 n3 m E C v L) : BE w wr.drew n0 n1 n2 n3 m E C v L :=
  ⟨h.st.up ((Below.refl _ _).drew), h.lo, h.lt, h.ne, h.ks⟩
theorem BE.s2 {a b : Value} (h : BE w wr n0 n1 n2 n3 m E [a, b] v L) : wr.cell? ⟨E, 0, none⟩ = some a ∧ wr.cell? ⟨E, 1, none⟩ = some b := ⟨h.ks 0 _ rfl, h.ks 1 _ rfl⟩
theorem BE.s4 {a b c d : Value} (h : BE w wr n0 n1 n2 n3 m E [a, b, c, d] v L) : wr.cell? ⟨E, 0, none⟩ = some a ∧ wr.cell? ⟨E, 1, none⟩ = some b ∧ wr.cell? ⟨E, 2, none⟩ = some c ∧ wr.cell? ⟨E, 3, none⟩ = some d := ⟨h.ks 0 _ rfl, h.ks 1 _ rfl, h.ks 2 _ rfl, h.ks 3 _ rfl⟩
end
end Wd
end Go.Proofs.YtgfnelhbdhbklaaGreat

/- A program as bytes, written: the walk. -/
namespace Go.Proofs.YtgfnelhbdhbklaaGreat
open Go.RowKit
set_option linter.unusedVariables false
set_option maxRecDepth 20000
namespace Wd
theorem cv_at {P : Program} (w : World) (t e : TypeId) (C : Array Value) (n c g : Nat) (hg : g = w.heap.size) (ht : P.underlying t = some (.slice e)) (he : P.underlying e = some (.int .u8)) :
    (convert t t (.slice (some ⟨g, 0, none⟩) n c)).run P (w.alloc (.cells C e)) = .ok (.slice (some ⟨g, 0, none⟩) n c) (w.alloc (.cells C e (C.size, C.size + 1))) := by
  subst hg; exact Lib.run_convert_bytes_const w t e C n c ht he
end Wd
end Go.Proofs.YtgfnelhbdhbklaaGreat

/- A program as bytes, read: a number. -/
namespace Go.Proofs.YtgfnelhbdhbklaaGreat
open Go.RowKit
set_option linter.unusedVariables false
set_option maxRecDepth 20000
namespace Wd
/-- a reader: its box, what is still to come -/
structure RS (w y : World) (p : Nat) (v : Value) (s : Rd8) : Prop where
  h : y.heap[p]? = some (.cells #[v, .bool s.2] 103 (0, 0))
  b : ByV w v s.1
  bel : Below w.heap.size w y
  lo : w.heap.size ≤ p
  f : ∃ g off n cap, v = .slice (some ⟨g, off, none⟩) n cap
theorem cells_at {w : World} {g : Nat} {cs : Array Value} {T : TypeId} {fr : Nat × Nat} (h : w.heap[g]? = some (.cells cs T fr)) {o : Nat} {x : Value} (hx : cs[o]? = some x) : w.cell? ⟨g, o, none⟩ = some x := by
  simp only [World.cell?, h]
  simpa using hx
theorem loose_at {w : World} {g : Nat} {cs : Array Value} {T : TypeId} (h : w.heap[g]? = some (.cells cs T (0, 0))) (o : Nat) : w.frozen? ⟨g, o, none⟩ = false := by
  simp [World.frozen?, h]
section
variable {w y y1 : World} {p : Nat} {v : Value} {s : Rd8}
theorem RS.c0 (h : RS w y p v s) : y.cell? ⟨p, 0, none⟩ = some v := cells_at h.h rfl
theorem RS.c1 (h : RS w y p v s) : y.cell? ⟨p, 1, none⟩ = some (.bool s.2) := cells_at h.h rfl
theorem RS.z (h : RS w y p v s) (o : Nat) : y.frozen? ⟨p, o, none⟩ = false := loose_at h.h o
theorem RS.lt (h : RS w y p v s) : p < y.heap.size := (Array.getElem?_eq_some_iff.1 h.h).1
theorem RS.up (h : RS w y p v s) (b : Below y.heap.size y y1) : RS w y1 p v s := ⟨(b.block p h.lt).trans h.h, h.b, h.bel.trans (b.mono h.bel.size), h.lo, h.f⟩
theorem RS.set1 (h : RS w y p v s) (b : Bool) : RS w (y.setCell ⟨p, 1, none⟩ (.bool b)) p v (s.1, b) ∧ Cg (fun k => k = p) y (y.setCell ⟨p, 1, none⟩ (.bool b)) := by
  have c := (Cg.refl (fun k => k = p) y).set ⟨p, 1, none⟩ rfl (.bool b)
  refine ⟨⟨?_, h.b, wr_bel c (fun k e => e ▸ h.lo) (Nat.le_refl _) h.bel, h.lo, h.f⟩, c⟩
  rw [setCell_eq_setRow y p 1 _ _ _ _ h.h]
  exact setRow_heap y p _ _ _ _ h.h
theorem RS.set0 (h : RS w y p v s) {v' : Value} {L : List Int} (hv : ByV w v' L) (hf : ∃ g off n cap, v' = .slice (some ⟨g, off, none⟩) n cap) : RS w (y.setCell ⟨p, 0, none⟩ v') p v' (L, s.2) ∧ Cg (fun k => k = p) y (y.setCell ⟨p, 0, none⟩ v') := by
  have c := (Cg.refl (fun k => k = p) y).set ⟨p, 0, none⟩ rfl v'
  refine ⟨⟨?_, hv, wr_bel c (fun k e => e ▸ h.lo) (Nat.le_refl _) h.bel, h.lo, hf⟩, c⟩
  rw [setCell_eq_setRow y p 0 _ _ _ _ h.h]
  exact setRow_heap y p _ _ _ _ h.h
end
theorem bits_or32 (a b : Nat) (ha : a < 4294967296) (hb : b < 4294967296) : bits .or .u32 (a : Int) (b : Int) = ((a ||| b : Nat) : Int) := by
  have hx : a ||| b < 2 ^ 32 := Nat.or_lt_two_pow (by omega) (by omega)
  have h1 : (BitVec.ofInt 32 (a : Int)).toNat = a := by
    rw [BitVec.ofInt_natCast, BitVec.toNat_ofNat]; exact Nat.mod_eq_of_lt (by omega)
  have h2 : (BitVec.ofInt 32 (b : Int)).toNat = b := by
    rw [BitVec.ofInt_natCast, BitVec.toNat_ofNat]; exact Nat.mod_eq_of_lt (by omega)
  show IntKind.u32.wrap ((BitVec.ofInt 32 (a : Int) ||| BitVec.ofInt 32 (b : Int)).toNat : Int) = _
  rw [BitVec.toNat_or, h1, h2, IntKind.wrap_u32]
  omega
theorem wrap_num (x : Int) (h : 0 ≤ x ∧ x < 4294967296) : IntKind.i64.wrap (IntKind.i32.wrap x) = i32 x := by
  obtain ⟨h1, h2⟩ := h
  rw [IntKind.wrap_i32, IntKind.wrap_i64]
  unfold i32
  by_cases q : x < 2147483648
  · rw [if_pos q]; omega
  · rw [if_neg q]; omega
theorem ByV.drop {w : World} {g off n cap : Nat} {L : List Int} (h : ByV w (.slice (some ⟨g, off, none⟩) n cap) L) (k : Nat) (hk : k ≤ n) : ByV w (.slice (some ⟨g, off + k, none⟩) (n - k) (cap - k)) (L.drop k) := by
  obtain ⟨ad', cap', e, h1, h2, h3⟩ := h.ex
  cases e
  refine ⟨some ⟨g, off + k, none⟩, cap - k, by rw [List.length_drop], by rw [List.length_drop]; omega, by omega, fun j x hx => ?_⟩
  rw [List.getElem?_drop] at hx
  obtain ⟨b, g', off', e, c⟩ := h3 _ x hx
  cases e
  exact ⟨b, g, off + k, rfl, by rw [show off + k + j = off + (k + j) by omega]; exact c⟩
theorem ByV.dropE {w : World} {ad : Option Addr} {n cap : Nat} {L : List Int} (h : ByV w (.slice ad n cap) L) (k : Nat) (hk : k ≤ n) (hc : cap = k) : ByV w (.slice ad (n - k) 0) (L.drop k) := by
  obtain ⟨ad', cap', e, h1, h2, h3⟩ := h.ex
  cases e
  refine ⟨ad, 0, by rw [List.length_drop], by rw [List.length_drop]; omega, by omega, fun j x hx => ?_⟩
  have := (List.getElem?_eq_some_iff.1 hx).1
  rw [List.length_drop] at this
  omega
end Wd
end Go.Proofs.YtgfnelhbdhbklaaGreat

/- A program as bytes, read: a count, a text. -/
namespace Go.Proofs.YtgfnelhbdhbklaaGreat
open Go.RowKit
set_option linter.unusedVariables false
set_option maxRecDepth 20000
namespace Wd
end Wd
end Go.Proofs.YtgfnelhbdhbklaaGreat

/- A program as bytes, read: a row of pairs. -/
namespace Go.Proofs.YtgfnelhbdhbklaaGreat
open Go.RowKit
set_option linter.unusedVariables false
set_option maxRecDepth 20000
namespace Wd
theorem RS.cg {w y y1 : World} {p : Nat} {v : Value} {s : Rd8} {F : Nat → Prop} (h : RS w y p v s) (c : Cg F y y1) (hF : ∀ k, F k → k ≠ p ∧ w.heap.size ≤ k) : RS w y1 p v s :=
  ⟨(c.block p h.lt (fun e => (hF p e).1 rfl)).trans h.h, h.b, wr_bel c (fun k e => (hF k e).2) (Nat.le_refl _) h.bel, h.lo, h.f⟩
end Wd
end Go.Proofs.YtgfnelhbdhbklaaGreat

/- A program that is right goes into few bytes. -/
namespace Go.Proofs.YtgfnelhbdhbklaaGreat
open Go.RowKit
set_option linter.unusedVariables false
set_option maxRecDepth 20000
namespace Wd
theorem first_0 : ∀ {X : List Int}, firstE X = 0 → ∀ e ∈ X, e = 0
  | [], _, e, h => by cases h
  | a :: X, h0, e, h => by
    rw [firstE] at h0
    by_cases ha : a = 0
    · rw [if_pos ha] at h0
      rcases List.mem_cons.1 h with rfl | h
      · exact ha
      · exact first_0 h0 e h
    · rw [if_neg ha] at h0
      exact absurd h0 ha
theorem args_16 {s : ByteArray} (h : 0 ≤ argsR s) : s.size ≤ 16 := by
  unfold argsR at h
  split at h
  · omega
  · omega
structure RightU (U : UnitA) : Prop where
  nn : U.names.length ≤ 48
  ns : ∀ s ∈ U.names, s.size ≤ 16
  nc : U.classes.length ≤ 12
  cs : ∀ c ∈ U.classes, c.nm.size ≤ 16 ∧ -1 ≤ c.super ∧ c.super < 12 ∧ 0 ≤ c.fields ∧ c.fields ≤ 62 ∧ c.binds.length ≤ 16 ∧ ∀ v ∈ c.binds, 0 ≤ v.1 ∧ v.1 < 48 ∧ 0 ≤ v.2 ∧ v.2 < 32
  nm : U.methods.length ≤ 32
  ms : ∀ m ∈ U.methods, 0 ≤ m.args ∧ m.args ≤ 8 ∧ 0 ≤ m.temps ∧ m.temps ≤ 8 ∧ m.lits.length ≤ 16 ∧ (∀ v ∈ m.lits, 0 ≤ v.1 ∧ v.1 ≤ 7 ∧ -1073741824 ≤ v.2 ∧ v.2 ≤ 1073741823) ∧ m.code.length ≤ 128
  no : U.objects.length ≤ 40
  os : ∀ o ∈ U.objects, 0 ≤ o.cls ∧ o.cls < 12 ∧ o.flds.length ≤ 62 ∧ ∀ v ∈ o.flds, 0 ≤ v.1 ∧ v.1 ≤ 4 ∧ -1073741824 ≤ v.2 ∧ v.2 ≤ 1073741823
  mn : 0 ≤ U.main ∧ U.main < 32
theorem from_cls {L : List ClassA} {names methods : Int} : ∀ (C : List ClassA) (i : Nat), i + C.length ≤ 12 → shapeFrom L names methods i C = 0 → ∀ c ∈ C, c.nm.size ≤ 16 ∧ -1 ≤ c.super ∧ c.super < 12 ∧ 0 ≤ c.fields ∧ c.fields ≤ 62 ∧ c.binds.length ≤ 16
  | [], _, _, _, c, h => by cases h
  | d :: C, i, hi, e, c, h => by
    rw [List.length_cons] at hi
    rw [shapeFrom] at e
    split at e
    · cases e
    · rename_i ht
      split at e
      · cases e
      · split at e
        · cases e
        · rename_i hc
          split at e
          · cases e
          · rename_i hb
            rcases List.mem_cons.1 h with rfl | h
            · have ht' : textOk c.nm = true := by simpa using ht
              have hc' : classOk L i c = true := by simpa using hc
              have hb' : bindsOk c.binds names methods = true := by simpa using hb
              unfold textOk at ht'
              unfold classOk at hc'
              unfold bindsOk at hb'
              simp only [Bool.and_eq_true, decide_eq_true_iff] at ht' hc' hb'
              obtain ⟨⟨⟨⟨⟨a1, a2⟩, a3⟩, a4⟩, _⟩, _⟩ := hc'
              exact ⟨ht'.2, a1, by omega, a3, a4, hb'.2⟩
            · exact from_cls C (i + 1) (by omega) e c h
theorem right_u {U : UnitA} (h : unitR U = 0) : RightU U := by
  have h0 := first_0 h
  have hl : longB U = false := by
    have := h0 _ (List.mem_cons_self ..)
    cases hb : longB U with
    | false => rfl
    | true => rw [hb] at this; cases this
  have hn : namesB U.names = true := by
    have := h0 _ (List.mem_cons_of_mem _ (List.mem_cons_self ..))
    cases hb : namesB U.names with
    | true => rfl
    | false => rw [hb] at this; cases this
  have hs : shapeR U.classes U.names.length U.methods.length = 0 := h0 _ (List.mem_cons_of_mem _ (List.mem_cons_of_mem _ (List.mem_cons_self ..)))
  have hr : ∀ e ∈ restC U 0, e = 0 := fun e he => h0 e (List.mem_cons_of_mem _ (List.mem_cons_of_mem _ (List.mem_cons_of_mem _ he)))
  have hM : ∀ e ∈ restM U 0, e = 0 := fun e he => hr e (by unfold restC; exact List.mem_append_right _ he)
  have hO : ∀ e ∈ restO U 0, e = 0 := fun e he => hM e (by unfold restM restA; exact List.mem_append_right _ (List.mem_append_right _ he))
  have hm : ∀ m ∈ U.methods, metR m U.names.length U.classes.length U.methods.length = 0 := fun m hm => hM _ (by unfold restM; rw [List.drop_zero]; exact List.mem_append_left _ (List.mem_map_of_mem hm))
  have ho : ∀ x ∈ U.objects, objB x U.classes U.objects.length = true := fun x hx => by
    have := hO _ (by unfold restO; rw [List.drop_zero]; exact List.mem_append_left _ (List.mem_map_of_mem hx))
    cases hb : objB x U.classes U.objects.length with
    | true => rfl
    | false => rw [hb] at this; cases this
  have hmn : mainE U = 0 := hO _ (by unfold restO; simp)
  unfold longB at hl
  simp only [Bool.or_eq_false_iff, decide_eq_false_iff_not] at hl
  obtain ⟨l1, l2, l3, l4, l5⟩ := hl
  have hcl : 2 ≤ U.classes.length ∧ U.classes.length ≤ 12 ∧ shapeFrom U.classes U.names.length U.methods.length 0 U.classes = 0 := by
    unfold shapeR at hs
    split at hs
    · cases hs
    · split at hs
      · cases hs
      · exact ⟨by omega, by omega, hs⟩
  refine ⟨by omega, fun s h => ?_, hcl.2.1, fun c hc => ?_, by omega, fun m h => ?_, by omega, fun o h => ?_, ?_⟩
  · unfold namesB at hn
    simp only [Bool.and_eq_true, List.all_eq_true, decide_eq_true_iff] at hn
    exact args_16 (hn.1 s h)
  · obtain ⟨a1, a2, a3, a4, a5, a6⟩ := from_cls U.classes 0 (by omega) hcl.2.2 c hc
    refine ⟨a1, a2, a3, a4, a5, a6, fun v hv => ?_⟩
    obtain ⟨k, hk⟩ := List.getElem?_of_mem hc
    obtain ⟨j, hj⟩ := List.getElem?_of_mem hv
    have := shape_binds hs hk hj
    omega
  · have e := hm m h
    unfold metR at e
    split at e
    · cases e
    · rename_i g1
      split at e
      · cases e
      · split at e
        · cases e
        · split at e
          · cases e
          · rename_i g2
            have hlit : m.lits.all (fun x => litR x U.names.length U.classes.length U.methods.length) = true := by simpa using g2
            refine ⟨by omega, by omega, by omega, by omega, by omega, fun v hv => ?_, by omega⟩
            have hv' := List.all_eq_true.1 hlit v hv
            unfold litR at hv'
            split at hv'
            · simp only [Bool.and_eq_true, decide_eq_true_iff] at hv'; omega
            · split at hv'
              · simp only [Bool.and_eq_true, decide_eq_true_iff] at hv'; omega
              · split at hv'
                · simp only [Bool.and_eq_true, decide_eq_true_iff] at hv'; omega
                · split at hv'
                  · simp only [Bool.and_eq_true, decide_eq_true_iff] at hv'; omega
                  · cases hv'
  · have e := ho o h
    unfold objB at e
    rw [Bool.and_eq_true] at e
    obtain ⟨e1, e2⟩ := e
    unfold objHead at e1
    split at e1
    · cases e1
    · split at e1
      · cases e1
      · rw [decide_eq_true_iff] at e1
        refine ⟨by omega, by omega, e1, fun v hv => ?_⟩
        have hv' := List.all_eq_true.1 e2 v hv
        unfold fldOk at hv'
        split at hv'
        · have := eq_of_beq hv'; omega
        · split at hv'
          · unfold num30 at hv'; simp only [Bool.and_eq_true, decide_eq_true_iff] at hv'; omega
          · split at hv'
            · unfold inN at hv'; simp only [Bool.and_eq_true, decide_eq_true_iff] at hv'; omega
            · cases hv'
  · unfold mainE at hmn
    split at hmn
    · rename_i g; omega
    · cases hmn
theorem RightU.fit {U : UnitA} (h : RightU U) : Fit U := by
  refine ⟨by have := h.nn; omega, fun s hs => by have := h.ns s hs; omega, by have := h.nc; omega, fun c hc => ?_, by have := h.nm; omega, fun m hm => ?_, by have := h.no; omega, fun o ho => ?_, by obtain ⟨a, b⟩ := h.mn; exact ⟨by omega, by omega⟩⟩
  · obtain ⟨a1, a2, a3, a4, a5, a6, a7⟩ := h.cs c hc
    exact ⟨by omega, ⟨by omega, by omega⟩, ⟨by omega, by omega⟩, by omega, fun v hv => by obtain ⟨b1, b2, b3, b4⟩ := a7 v hv; exact ⟨⟨by omega, by omega⟩, ⟨by omega, by omega⟩⟩⟩
  · obtain ⟨a1, a2, a3, a4, a5, a6, a7⟩ := h.ms m hm
    exact ⟨⟨by omega, by omega⟩, ⟨by omega, by omega⟩, by omega, fun v hv => by obtain ⟨b1, b2, b3, b4⟩ := a6 v hv; exact ⟨⟨by omega, by omega⟩, ⟨by omega, by omega⟩⟩, by omega⟩
  · obtain ⟨a1, a2, a3, a4⟩ := h.os o ho
    exact ⟨⟨by omega, by omega⟩, by omega, fun v hv => by obtain ⟨b1, b2, b3, b4⟩ := a4 v hv; exact ⟨⟨by omega, by omega⟩, ⟨by omega, by omega⟩⟩⟩
theorem flatB_le {T : Type} {g : T → List Int} {k : Nat} : ∀ (X : List T), (∀ x ∈ X, (g x).length ≤ k) → ((X.map g).flatten).length ≤ X.length * k
  | [], _ => by simp
  | x :: X, h => by
    have h1 := h x (List.mem_cons_self ..)
    have h2 := flatB_le X (fun y hy => h y (List.mem_cons_of_mem _ hy))
    rw [List.map_cons, List.flatten_cons, List.length_append, List.length_cons, Nat.succ_mul]
    omega
theorem rowB_le {T : Type} {g : T → List Int} {k n : Nat} {X : List T} (hn : X.length ≤ n) (h : ∀ x ∈ X, (g x).length ≤ k) : (rowB g X).length ≤ 4 + n * k := by
  have h1 := flatB_le X h
  have h2 : X.length * k ≤ n * k := Nat.mul_le_mul_right k hn
  unfold rowB
  rw [List.length_append, b4_len]
  omega
theorem rowP_le {n : Nat} {X : List (Int × Int)} (hn : X.length ≤ n) : (rowP X).length ≤ 4 + n * 8 := by
  rw [rowP_eq]
  exact rowB_le hn (fun v _ => by simp [b4])
theorem bytes_le {U : UnitA} (h : RightU U) : (bytesU U).length ≤ 31768 := by
  have a1 : (rowB txt U.names).length ≤ 4 + 48 * 20 := rowB_le h.nn (fun s hs => by unfold txt; rw [List.length_append, b4_len, tby_len]; have := h.ns s hs; omega)
  have a2 : (rowB clB U.classes).length ≤ 4 + 12 * 160 := rowB_le h.nc (fun c hc => by
    obtain ⟨b1, _, _, _, _, b2, _⟩ := h.cs c hc
    have := rowP_le b2
    unfold clB txt
    simp only [List.length_append, b4_len, tby_len]; omega)
  have a3 : (rowB mtB U.methods).length ≤ 4 + 32 * 272 := rowB_le h.nm (fun m hm => by
    obtain ⟨_, _, _, _, b1, _, b2⟩ := h.ms m hm
    have := rowP_le b1
    unfold mtB
    simp only [List.length_append, b4_len]; omega)
  have a4 : (rowB obB U.objects).length ≤ 4 + 40 * 504 := rowB_le h.no (fun o ho => by
    obtain ⟨_, _, b1, _⟩ := h.os o ho
    have := rowP_le b1
    unfold obB
    simp only [List.length_append, b4_len]; omega)
  unfold bytesU bodyU
  simp only [List.length_append, b4_len, List.length_cons, List.length_nil]
  omega
/-- two programs of one row of bytes are one -/
theorem bytes_inj {U V : UnitA} (hu : unitR U = 0) (hv : unitR V = 0) (h : bytesU U = bytesU V) : U = V := by
  have e : bodyU U = bodyU V := List.append_cancel_left h
  have h1 := unR_body (right_u hu).fit
  have h2 := unR_body (right_u hv).fit
  rw [e, h2] at h1
  exact (congrArg Prod.fst h1).symm
end Wd
end Go.Proofs.YtgfnelhbdhbklaaGreat

/- Programs as bytes: the landed reader, as its code takes bytes apart; what it reads was written so. No program is walked here. -/
namespace Go.Proofs.YtgfnelhbdhbklaaGreat
open Go.RowKit
set_option linter.unusedVariables false
set_option maxRecDepth 20000
namespace Wd
def cutR (n : Int) (s : Rd8) : List Int × Rd8 := if (s.1.length : Int) < n then ([], (s.1, true)) else (s.1.take n.toNat, (s.1.drop n.toNat, s.2))
def numL : Rd8 → Int × Rd8
  | (a :: b :: c :: d :: L, f) => (num4 a b c d, (L, f))
  | (L, _) => (0, (L, true))
def lenL (s : Rd8) : Int × Rd8 := let x := numL s; if x.1 < 0 then (0, (x.2.1, true)) else x
def txtL (s : Rd8) : List Int × Rd8 := let x := lenL s; cutR x.1 x.2
def nmL (s : Rd8) : ByteArray × Rd8 := let x := txtL s; (textOf x.1, x.2)
def rowL {T : Type} (f : Rd8 → T × Rd8) (s : Rd8) : List T × Rd8 := let x := lenL s; manyR f x.1.toNat [] x.2
def prL (s : Rd8) : (Int × Int) × Rd8 := let x := numL s; let y := numL x.2; ((x.1, y.1), y.2)
def clL (s : Rd8) : ClassA × Rd8 := let a := nmL s; let b := numL a.2; let c := numL b.2; let d := rowL prL c.2; (⟨a.1, b.1, c.1, d.1⟩, d.2)
def mtL (s : Rd8) : MethA × Rd8 := let a := numL s; let b := numL a.2; let c := rowL prL b.2; let d := txtL c.2; (⟨a.1, b.1, c.1, d.1⟩, d.2)
def obL (s : Rd8) : ObjA × Rd8 := let a := numL s; let b := rowL prL a.2; (⟨a.1, b.1⟩, b.2)
def unL (s : Rd8) : UnitA × Rd8 := let a := rowL nmL s; let b := rowL clL a.2; let c := rowL mtL b.2; let d := rowL obL c.2; let e := numL d.2; (⟨a.1, b.1, c.1, d.1, e.1⟩, e.2)
/-- the bytes of a row are bytes -/
def Bd8 (L : List Int) : Prop := ∀ x ∈ L, 0 ≤ x ∧ x ≤ 255
/-- what is read is the bytes of it, and what is left -/
structure Eat {T : Type} (f : Rd8 → T × Rd8) (g : T → List Int) : Prop where
  le : ∀ s, (f s).2.1.length ≤ s.1.length
  lt : ∀ s, (f s).2.2 = true ∨ (f s).2.1.length < s.1.length
  st : ∀ s, s.2 = true → (f s).2.2 = true
  bd : ∀ s, Bd8 s.1 → Bd8 (f s).2.1
  bk : ∀ s, Bd8 s.1 → (f s).2.2 = false → s.1 = g (f s).1 ++ (f s).2.1
theorem numL_no {s : Rd8} (h : s.1.length < 4) : numL s = (0, (s.1, true)) := by
  obtain ⟨L, b⟩ := s
  match L, h with
  | [], h => rfl
  | [_], h => rfl
  | [_, _], h => rfl
  | [_, _, _], h => rfl
  | _ :: _ :: _ :: _ :: _, h => exfalso; simp at h; omega
theorem numL_yes {s : Rd8} (h : ¬ s.1.length < 4) : ∃ a b c d L, s.1 = a :: b :: c :: d :: L ∧ numL s = (num4 a b c d, (L, s.2)) := by
  obtain ⟨L, f⟩ := s
  match L, h with
  | [], h => simp at h
  | [_], h => simp at h
  | [_, _], h => simp at h
  | [_, _, _], h => simp at h
  | a :: b :: c :: d :: L, h => exact ⟨a, b, c, d, L, rfl, rfl⟩
theorem b4_num {a b c d : Int} (ha : 0 ≤ a ∧ a ≤ 255) (hb : 0 ≤ b ∧ b ≤ 255) (hc : 0 ≤ c ∧ c ≤ 255) (hd : 0 ≤ d ∧ d ≤ 255) : b4 (num4 a b c d) = [a, b, c, d] := by
  unfold b4 num4 i32
  have e : ∀ m : Int, (m = a * 16777216 + b * 65536 + c * 256 + d ∨ m = a * 16777216 + b * 65536 + c * 256 + d - 4294967296) → [m % 4294967296 / 16777216, m % 4294967296 / 65536 % 256, m % 4294967296 / 256 % 256, m % 4294967296 % 256] = [a, b, c, d] := by
    intro m hm
    have e1 : m % 4294967296 = a * 16777216 + b * 65536 + c * 256 + d := by omega
    rw [e1]
    congr 1
    · omega
    congr 1
    · omega
    congr 1
    · omega
    congr 1
    omega
  split
  · exact e _ (Or.inl rfl)
  · exact e _ (Or.inr rfl)
theorem num4_R {a b c d : Int} (ha : 0 ≤ a ∧ a ≤ 255) (hb : 0 ≤ b ∧ b ≤ 255) (hc : 0 ≤ c ∧ c ≤ 255) (hd : 0 ≤ d ∧ d ≤ 255) : R32 (num4 a b c d) := by
  unfold num4 i32 R32
  split <;> omega
theorem Bd8.tail {a : Int} {L : List Int} (h : Bd8 (a :: L)) : Bd8 L := fun x hx => h x (List.mem_cons_of_mem _ hx)
theorem Bd8.head {a : Int} {L : List Int} (h : Bd8 (a :: L)) : 0 ≤ a ∧ a ≤ 255 := h a (List.mem_cons_self ..)
theorem Bd8.drop {L : List Int} (h : Bd8 L) (n : Nat) : Bd8 (L.drop n) := fun x hx => h x (List.mem_of_mem_drop hx)
theorem Bd8.take {L : List Int} (h : Bd8 L) (n : Nat) : Bd8 (L.take n) := fun x hx => h x (List.mem_of_mem_take hx)
theorem numL_R {s : Rd8} (h : Bd8 s.1) : R32 (numL s).1 := by
  by_cases q : s.1.length < 4
  · rw [numL_no q]; exact ⟨by omega, by omega⟩
  · obtain ⟨a, b, c, d, L, e, e2⟩ := numL_yes q
    rw [e] at h
    rw [e2]
    exact num4_R h.head h.tail.head h.tail.tail.head h.tail.tail.tail.head
theorem numL_eat : Eat numL b4 := by
  refine ⟨fun s => ?_, fun s => ?_, fun s hs => ?_, fun s hb => ?_, fun s hb hf => ?_⟩ <;> (by_cases q : s.1.length < 4)
  · rw [numL_no q]; exact Nat.le_refl _
  · obtain ⟨a, b, c, d, L, e, e2⟩ := numL_yes q
    rw [e2, e]; simp; omega
  · rw [numL_no q]; exact Or.inl rfl
  · obtain ⟨a, b, c, d, L, e, e2⟩ := numL_yes q
    rw [e2, e]; right; simp; omega
  · rw [numL_no q]
  · obtain ⟨a, b, c, d, L, e, e2⟩ := numL_yes q
    rw [e2]; exact hs
  · rw [numL_no q]; exact hb
  · obtain ⟨a, b, c, d, L, e, e2⟩ := numL_yes q
    rw [e2]; rw [e] at hb; exact hb.tail.tail.tail.tail
  · rw [numL_no q] at hf; cases hf
  · obtain ⟨a, b, c, d, L, e, e2⟩ := numL_yes q
    rw [e] at hb
    rw [e2, e]
    show _ = b4 (num4 a b c d) ++ L
    rw [b4_num hb.head hb.tail.head hb.tail.tail.head hb.tail.tail.tail.head]
    rfl
theorem lenL_eat : Eat lenL b4 := by
  have h := numL_eat
  refine ⟨fun s => ?_, fun s => ?_, fun s hs => ?_, fun s hb => ?_, fun s hb hf => ?_⟩
  · unfold lenL; simp only; split
    · exact h.le s
    · exact h.le s
  · unfold lenL; simp only; split
    · exact Or.inl rfl
    · exact h.lt s
  · unfold lenL; simp only; split
    · rfl
    · exact h.st s hs
  · unfold lenL; simp only; split
    · exact h.bd s hb
    · exact h.bd s hb
  · unfold lenL at hf ⊢; simp only at hf ⊢
    split at hf
    · cases hf
    · rename_i hn
      rw [if_neg hn]
      exact h.bk s hb hf
theorem lenL_pos (s : Rd8) : 0 ≤ (lenL s).1 := by
  unfold lenL; simp only; split
  · exact Int.le_refl _
  · omega
theorem lenL_R {s : Rd8} (h : Bd8 s.1) : (lenL s).1 < 2147483648 := by
  have := (numL_R h).2
  unfold lenL; simp only; split
  · show (0 : Int) < _; omega
  · exact this
theorem cutR_all (n : Int) (hn : 0 ≤ n) (s : Rd8) : (cutR n s).2.1.length ≤ s.1.length ∧ (s.2 = true → (cutR n s).2.2 = true) ∧ (Bd8 s.1 → Bd8 (cutR n s).2.1 ∧ Bd8 (cutR n s).1) ∧ ((cutR n s).2.2 = false → s.2 = false ∧ s.1 = (cutR n s).1 ++ (cutR n s).2.1 ∧ ((cutR n s).1.length : Int) = n) := by
  unfold cutR
  split
  · exact ⟨Nat.le_refl _, fun _ => rfl, fun h => ⟨h, fun x hx => by cases hx⟩, fun h => by cases h⟩
  · refine ⟨by simp, fun h => h, fun h => ⟨h.drop _, h.take _⟩, fun h => ⟨h, ?_, ?_⟩⟩
    · simp
    · simp only [List.length_take]; omega
theorem txtL_eat : Eat txtL (fun A => b4 A.length ++ A) := by
  have h := lenL_eat
  refine ⟨fun s => ?_, fun s => ?_, fun s hs => ?_, fun s hb => ?_, fun s hb hf => ?_⟩ <;> (have t := cutR_all (lenL s).1 (lenL_pos s) (lenL s).2; unfold txtL)
  · exact Nat.le_trans t.1 (h.le s)
  · rcases h.lt s with e | e
    · exact Or.inl (t.2.1 e)
    · exact Or.inr (Nat.lt_of_le_of_lt t.1 e)
  · exact t.2.1 (h.st s hs)
  · exact (t.2.2.1 (h.bd s hb)).1
  · obtain ⟨t1, t2, t3⟩ := t.2.2.2 hf
    have e := h.bk s hb t1
    simp only
    rw [t3, List.append_assoc, ← t2]
    exact e
theorem txtL_bd {s : Rd8} (hb : Bd8 s.1) : Bd8 (txtL s).1 := ((cutR_all (lenL s).1 (lenL_pos s) (lenL s).2).2.2.1 (lenL_eat.bd s hb)).2
theorem tby_of {A : List Int} (h : Bd8 A) : tby (textOf A) = A := by
  unfold tby textOf byteL
  simp only [List.map_map]
  have : ∀ x ∈ A, ((fun b : UInt8 => (b.toNat : Int)) ∘ fun x : Int => UInt8.ofNat x.toNat) x = x := fun x hx => by
    obtain ⟨h1, h2⟩ := h x hx
    simp only [Function.comp]
    have : (UInt8.ofNat x.toNat).toNat = x.toNat := by
      rw [UInt8.toNat_ofNat']
      omega
    rw [this]
    omega
  exact (List.map_congr_left this).trans (List.map_id' A)
theorem textOf_len (A : List Int) : (textOf A).size = A.length := by
  unfold textOf byteL
  show (A.map _).toArray.size = _
  simp
theorem nmL_eat : Eat nmL txt := by
  have h := txtL_eat
  refine ⟨h.le, h.lt, h.st, h.bd, fun s hb hf => ?_⟩
  have e := h.bk s hb hf
  show s.1 = txt (textOf (txtL s).1) ++ (txtL s).2.1
  unfold txt
  rw [tby_of (txtL_bd hb), textOf_len]
  exact e
theorem manyR_eat {T : Type} {f : Rd8 → T × Rd8} {g : T → List Int} (h : Eat f g) : ∀ (n : Nat) (acc : List T) (s : Rd8), (manyR f n acc s).2.1.length ≤ s.1.length ∧ (s.2 = true → (manyR f n acc s).2.2 = true) ∧ (Bd8 s.1 → Bd8 (manyR f n acc s).2.1) ∧ (Bd8 s.1 → (manyR f n acc s).2.2 = false → ∃ Y : List T, (manyR f n acc s).1 = acc ++ Y ∧ Y.length = n ∧ s.1 = (Y.map g).flatten ++ (manyR f n acc s).2.1)
  | 0, acc, s => ⟨Nat.le_refl _, fun e => e, fun e => e, fun _ _ => ⟨[], by simp [manyR], rfl, rfl⟩⟩
  | n + 1, acc, s => by
    rw [manyR]
    by_cases hs : s.2 = true
    · rw [if_pos hs]
      exact ⟨Nat.le_refl _, fun _ => hs, fun e => e, fun _ e => by rw [hs] at e; cases e⟩
    · rw [if_neg hs]
      simp only
      obtain ⟨i1, i2, i3, i4⟩ := manyR_eat h n (acc ++ [(f s).1]) (f s).2
      refine ⟨Nat.le_trans i1 (h.le s), fun e => absurd e hs, fun e => i3 (h.bd s e), fun hb e => ?_⟩
      obtain ⟨Y, y1, y2, y3⟩ := i4 (h.bd s hb) e
      have hf : (f s).2.2 = false := by
        cases q : (f s).2.2 with
        | false => rfl
        | true => rw [i2 q] at e; cases e
      refine ⟨(f s).1 :: Y, by rw [y1, List.append_assoc]; rfl, by rw [List.length_cons, y2], ?_⟩
      have e1 := h.bk s hb hf
      rw [List.map_cons, List.flatten_cons, List.append_assoc, ← y3]
      exact e1
theorem rowL_eat {T : Type} {f : Rd8 → T × Rd8} {g : T → List Int} (h : Eat f g) : Eat (rowL f) (rowB g) := by
  have l := lenL_eat
  refine ⟨fun s => ?_, fun s => ?_, fun s hs => ?_, fun s hb => ?_, fun s hb hf => ?_⟩ <;> (have t := manyR_eat h (lenL s).1.toNat [] (lenL s).2; unfold rowL)
  · exact Nat.le_trans t.1 (l.le s)
  · rcases l.lt s with e | e
    · exact Or.inl (t.2.1 e)
    · exact Or.inr (Nat.lt_of_le_of_lt t.1 e)
  · exact t.2.1 (l.st s hs)
  · exact t.2.2.1 (l.bd s hb)
  · obtain ⟨Y, y1, y2, y3⟩ := t.2.2.2 (l.bd s hb) hf
    have hl : (lenL s).2.2 = false := by
      cases q : (lenL s).2.2 with
      | false => rfl
      | true => have := t.2.1 q; unfold rowL at hf; simp only at hf; rw [this] at hf; cases hf
    have e := l.bk s hb hl
    have hp := lenL_pos s
    simp only
    rw [y1, List.nil_append]
    unfold rowB
    rw [y2, List.append_assoc, ← y3, Int.toNat_of_nonneg hp]
    exact e
theorem prL_eat : Eat prL (fun v => b4 v.1 ++ b4 v.2) := by
  have h := numL_eat
  refine ⟨fun s => Nat.le_trans (h.le _) (h.le s), fun s => ?_, fun s hs => h.st _ (h.st s hs), fun s hb => h.bd _ (h.bd s hb), fun s hb hf => ?_⟩
  · rcases h.lt s with e | e
    · exact Or.inl (h.st _ e)
    · exact Or.inr (Nat.lt_of_le_of_lt (h.le _) e)
  · have hf2 : (numL (numL s).2).2.2 = false := hf
    have h1 : (numL s).2.2 = false := by
      cases q : (numL s).2.2 with
      | false => rfl
      | true => rw [h.st _ q] at hf2; cases hf2
    have e1 := h.bk s hb h1
    have e2 := h.bk _ (h.bd s hb) hf2
    show s.1 = b4 (numL s).1 ++ b4 (numL (numL s).2).1 ++ (numL (numL s).2).2.1
    rw [List.append_assoc, ← e2]
    exact e1
/-- one behind the other -/
theorem Eat.no {T : Type} {f : Rd8 → T × Rd8} {g : T → List Int} (h : Eat f g) {s : Rd8} (hf : (f s).2.2 = false) : s.2 = false := by
  cases q : s.2 with
  | false => rfl
  | true => rw [h.st s q] at hf; cases hf
theorem rowP_eat : Eat (rowL prL) rowP := rowL_eat prL_eat
theorem clL_eat : Eat clL clB := by
  have n := numL_eat
  have t := nmL_eat
  have r := rowP_eat
  refine ⟨fun s => ?_, fun s => ?_, fun s hs => ?_, fun s hb => ?_, fun s hb hf => ?_⟩
  · exact Nat.le_trans (r.le _) (Nat.le_trans (n.le _) (Nat.le_trans (n.le _) (t.le s)))
  · rcases t.lt s with e | e
    · exact Or.inl (r.st _ (n.st _ (n.st _ e)))
    · exact Or.inr (Nat.lt_of_le_of_lt (Nat.le_trans (r.le _) (Nat.le_trans (n.le _) (n.le _))) e)
  · exact r.st _ (n.st _ (n.st _ (t.st s hs)))
  · exact r.bd _ (n.bd _ (n.bd _ (t.bd s hb)))
  · have b1 := t.bd s hb
    have b2 := n.bd _ b1
    have b3 := n.bd _ b2
    have f4 : (rowL prL (numL (numL (nmL s).2).2).2).2.2 = false := hf
    have f3 := r.no f4
    have f2 := n.no f3
    have f1 := n.no f2
    have e1 := t.bk s hb f1
    have e2 := n.bk _ b1 f2
    have e3 := n.bk _ b2 f3
    have e4 := r.bk _ b3 f4
    show s.1 = txt (nmL s).1 ++ b4 (numL (nmL s).2).1 ++ b4 (numL (numL (nmL s).2).2).1 ++ rowP (rowL prL (numL (numL (nmL s).2).2).2).1 ++ (rowL prL (numL (numL (nmL s).2).2).2).2.1
    rw [List.append_assoc, ← e4, List.append_assoc, ← e3, List.append_assoc, ← e2]
    exact e1
theorem mtL_eat : Eat mtL mtB := by
  have n := numL_eat
  have t := txtL_eat
  have r := rowP_eat
  refine ⟨fun s => ?_, fun s => ?_, fun s hs => ?_, fun s hb => ?_, fun s hb hf => ?_⟩
  · exact Nat.le_trans (t.le _) (Nat.le_trans (r.le _) (Nat.le_trans (n.le _) (n.le s)))
  · rcases n.lt s with e | e
    · exact Or.inl (t.st _ (r.st _ (n.st _ e)))
    · exact Or.inr (Nat.lt_of_le_of_lt (Nat.le_trans (t.le _) (Nat.le_trans (r.le _) (n.le _))) e)
  · exact t.st _ (r.st _ (n.st _ (n.st s hs)))
  · exact t.bd _ (r.bd _ (n.bd _ (n.bd s hb)))
  · have b1 := n.bd s hb
    have b2 := n.bd _ b1
    have b3 := r.bd _ b2
    have f4 : (txtL (rowL prL (numL (numL s).2).2).2).2.2 = false := hf
    have f3 := t.no f4
    have f2 := r.no f3
    have f1 := n.no f2
    have e1 := n.bk s hb f1
    have e2 := n.bk _ b1 f2
    have e3 := r.bk _ b2 f3
    have e4 := t.bk _ b3 f4
    show s.1 = b4 (numL s).1 ++ b4 (numL (numL s).2).1 ++ rowP (rowL prL (numL (numL s).2).2).1 ++ (b4 ((txtL (rowL prL (numL (numL s).2).2).2).1.length : Int) ++ (txtL (rowL prL (numL (numL s).2).2).2).1) ++ (txtL (rowL prL (numL (numL s).2).2).2).2.1
    rw [List.append_assoc, ← e4, List.append_assoc, ← e3, List.append_assoc, ← e2]
    exact e1
theorem obL_eat : Eat obL obB := by
  have n := numL_eat
  have r := rowP_eat
  refine ⟨fun s => Nat.le_trans (r.le _) (n.le s), fun s => ?_, fun s hs => r.st _ (n.st s hs), fun s hb => r.bd _ (n.bd s hb), fun s hb hf => ?_⟩
  · rcases n.lt s with e | e
    · exact Or.inl (r.st _ e)
    · exact Or.inr (Nat.lt_of_le_of_lt (r.le _) e)
  · have f2 : (rowL prL (numL s).2).2.2 = false := hf
    have e1 := n.bk s hb (r.no f2)
    have e2 := r.bk _ (n.bd s hb) f2
    show s.1 = b4 (numL s).1 ++ rowP (rowL prL (numL s).2).1 ++ (rowL prL (numL s).2).2.1
    rw [List.append_assoc, ← e2]
    exact e1
theorem unL_eat : Eat unL bodyU := by
  have n := numL_eat
  have r1 := rowL_eat nmL_eat
  have r2 := rowL_eat clL_eat
  have r3 := rowL_eat mtL_eat
  have r4 := rowL_eat obL_eat
  refine ⟨fun s => ?_, fun s => ?_, fun s hs => ?_, fun s hb => ?_, fun s hb hf => ?_⟩
  · exact Nat.le_trans (n.le _) (Nat.le_trans (r4.le _) (Nat.le_trans (r3.le _) (Nat.le_trans (r2.le _) (r1.le s))))
  · rcases r1.lt s with e | e
    · exact Or.inl (n.st _ (r4.st _ (r3.st _ (r2.st _ e))))
    · exact Or.inr (Nat.lt_of_le_of_lt (Nat.le_trans (n.le _) (Nat.le_trans (r4.le _) (Nat.le_trans (r3.le _) (r2.le _)))) e)
  · exact n.st _ (r4.st _ (r3.st _ (r2.st _ (r1.st s hs))))
  · exact n.bd _ (r4.bd _ (r3.bd _ (r2.bd _ (r1.bd s hb))))
  · obtain ⟨a, ha⟩ : ∃ a, rowL nmL s = a := ⟨_, rfl⟩
    obtain ⟨b, hb2⟩ : ∃ b, rowL clL a.2 = b := ⟨_, rfl⟩
    obtain ⟨c, hc⟩ : ∃ c, rowL mtL b.2 = c := ⟨_, rfl⟩
    obtain ⟨d, hd⟩ : ∃ d, rowL obL c.2 = d := ⟨_, rfl⟩
    obtain ⟨e, he⟩ : ∃ e, numL d.2 = e := ⟨_, rfl⟩
    have hu : unL s = (⟨a.1, b.1, c.1, d.1, e.1⟩, e.2) := by unfold unL; simp only [ha, hb2, hc, hd, he]
    rw [hu] at hf ⊢
    have f5 : (numL d.2).2.2 = false := by rw [he]; exact hf
    have f4 : (rowL obL c.2).2.2 = false := by rw [hd]; exact n.no f5
    have f3 : (rowL mtL b.2).2.2 = false := by rw [hc]; exact r4.no f4
    have f2 : (rowL clL a.2).2.2 = false := by rw [hb2]; exact r3.no f3
    have f1 : (rowL nmL s).2.2 = false := by rw [ha]; exact r2.no f2
    have b1 : Bd8 a.2.1 := by rw [← ha]; exact r1.bd s hb
    have b2 : Bd8 b.2.1 := by rw [← hb2]; exact r2.bd _ b1
    have b3 : Bd8 c.2.1 := by rw [← hc]; exact r3.bd _ b2
    have b4' : Bd8 d.2.1 := by rw [← hd]; exact r4.bd _ b3
    have e1 := r1.bk s hb f1
    have e2 := r2.bk _ b1 f2
    have e3 := r3.bk _ b2 f3
    have e4 := r4.bk _ b3 f4
    have e5 := n.bk _ b4' f5
    rw [ha] at e1
    rw [hb2] at e2
    rw [hc] at e3
    rw [hd] at e4
    rw [he] at e5
    unfold bodyU
    simp only
    rw [List.append_assoc, ← e5, List.append_assoc, ← e4, List.append_assoc, ← e3, List.append_assoc, ← e2]
    exact e1
/-- .. and the other way round -/
theorem numL_b4 {n : Int} (h : R32 n) (L : List Int) : numL (b4 n ++ L, false) = (n, (L, false)) := by
  show (num4 _ _ _ _, (L, false)) = _
  rw [num_b4 h]
theorem lenL_b4 (n : Nat) (L : List Int) (h32 : n < 2147483648) : lenL (b4 n ++ L, false) = ((n : Int), (L, false)) := by
  unfold lenL
  rw [numL_b4 ⟨by omega, by omega⟩]
  simp only
  rw [if_neg (by omega)]
theorem txtL_b4 (A L : List Int) (h32 : A.length < 2147483648) : txtL (b4 A.length ++ (A ++ L), false) = (A, (L, false)) := by
  unfold txtL
  rw [lenL_b4 A.length (A ++ L) h32]
  simp only
  unfold cutR
  rw [if_neg (by simp only [List.length_append]; omega)]
  simp
theorem nmL_txt (s : ByteArray) (L : List Int) (h32 : s.size < 2147483648) : nmL (txt s ++ L, false) = (s, (L, false)) := by
  unfold nmL txt
  rw [List.append_assoc]
  have h := txtL_b4 (tby s) L (by rw [tby_len]; exact h32)
  rw [tby_len] at h
  rw [h]
  simp only
  rw [tby_text]
theorem prL_b4 {v : Int × Int} (h : R32 v.1 ∧ R32 v.2) (L : List Int) : prL (b4 v.1 ++ b4 v.2 ++ L, false) = (v, (L, false)) := by
  unfold prL
  rw [List.append_assoc, numL_b4 h.1]
  simp only
  rw [numL_b4 h.2]
theorem rowL_rowB {T : Type} {f : Rd8 → T × Rd8} {g : T → List Int} (X : List T) (L : List Int) (h : ∀ x ∈ X, ∀ L, f (g x ++ L, false) = (x, (L, false))) (h32 : X.length < 2147483648) : rowL f (rowB g X ++ L, false) = (X, (L, false)) := by
  unfold rowL rowB
  rw [List.append_assoc, lenL_b4 X.length _ h32]
  simp only
  rw [Int.toNat_natCast, manyR_app X [] L h]
  rfl
theorem rowL_P {X : List (Int × Int)} (L : List Int) (h : ∀ v ∈ X, R32 v.1 ∧ R32 v.2) (h32 : X.length < 2147483648) : rowL prL (rowP X ++ L, false) = (X, (L, false)) := by
  rw [rowP_eq]
  exact rowL_rowB X L (fun v hv L => prL_b4 (h v hv) L) h32
theorem clL_clB {c : ClassA} (h : c.nm.size < 2147483648 ∧ R32 c.super ∧ R32 c.fields ∧ c.binds.length < 2147483648 ∧ ∀ v ∈ c.binds, R32 v.1 ∧ R32 v.2) (L : List Int) : clL (clB c ++ L, false) = (c, (L, false)) := by
  obtain ⟨h1, h2, h3, h4, h5⟩ := h
  unfold clL clB
  rw [List.append_assoc, List.append_assoc, List.append_assoc, nmL_txt _ _ h1]
  simp only
  rw [numL_b4 h2]
  simp only
  rw [numL_b4 h3]
  simp only
  rw [rowL_P L h5 h4]
theorem mtL_mtB {m : MethA} (h : R32 m.args ∧ R32 m.temps ∧ m.lits.length < 2147483648 ∧ (∀ v ∈ m.lits, R32 v.1 ∧ R32 v.2) ∧ m.code.length < 2147483648) (L : List Int) : mtL (mtB m ++ L, false) = (m, (L, false)) := by
  obtain ⟨h1, h2, h3, h4, h5⟩ := h
  unfold mtL mtB
  rw [List.append_assoc, List.append_assoc, List.append_assoc, numL_b4 h1]
  simp only
  rw [numL_b4 h2]
  simp only
  rw [rowL_P _ h4 h3]
  simp only
  rw [List.append_assoc, txtL_b4 _ _ h5]
theorem obL_obB {o : ObjA} (h : R32 o.cls ∧ o.flds.length < 2147483648 ∧ ∀ v ∈ o.flds, R32 v.1 ∧ R32 v.2) (L : List Int) : obL (obB o ++ L, false) = (o, (L, false)) := by
  obtain ⟨h1, h2, h3⟩ := h
  unfold obL obB
  rw [List.append_assoc, numL_b4 h1]
  simp only
  rw [rowL_P _ h3 h2]
theorem unL_body {U : UnitA} (h : Fit U) : unL (bodyU U, false) = (U, ([], false)) := by
  unfold unL bodyU
  rw [List.append_assoc, List.append_assoc, List.append_assoc, rowL_rowB U.names _ (fun s hs L => nmL_txt s L (h.ns s hs)) h.nn]
  simp only
  rw [rowL_rowB U.classes _ (fun c hc L => clL_clB (h.cs c hc) L) h.nc]
  simp only
  rw [rowL_rowB U.methods _ (fun c hc L => mtL_mtB (h.ms c hc) L) h.nm]
  simp only
  rw [rowL_rowB U.objects _ (fun c hc L => obL_obB (h.os c hc) L) h.no]
  simp only
  have := numL_b4 h.mn []
  rw [List.append_nil] at this
  rw [this]
/-- the four bytes ahead -/
def markL (b : List Int) : Rd8 := let t := cutR 4 (b, false); if t.1 = [84, 87, 49, 0] then t.2 else (t.2.1, true)
/-- what bytes are a program's -/
def Good (b : List Int) (U : UnitA) : Prop := unitR U = 0 ∧ bytesU U = b
theorem markL_bd {b : List Int} (h : Bd8 b) : Bd8 (markL b).1 := by
  have t := ((cutR_all 4 (by omega) (b, false)).2.2.1 h).1
  unfold markL; simp only; split
  · exact t
  · exact t
theorem markL_le (b : List Int) : (markL b).1.length ≤ b.length := by
  have t := (cutR_all 4 (by omega) (b, false)).1
  unfold markL; simp only; split
  · exact t
  · exact t
theorem good_of {b : List Int} {U : UnitA} (hb : Bd8 b) (h : unL (markL b) = (U, ([], false))) (hr : unitR U = 0) : Good b U := by
  have u := unL_eat
  have hf : (unL (markL b)).2.2 = false := by rw [h]
  have hm := u.no hf
  have e := u.bk _ (markL_bd hb) hf
  rw [h] at e
  simp only [List.append_nil] at e
  obtain ⟨-, -, -, t⟩ := cutR_all 4 (by omega) (b, false)
  refine ⟨hr, ?_⟩
  unfold bytesU
  rw [← e]
  unfold markL at hm ⊢
  simp only at hm ⊢
  split at hm
  · rename_i q
    rw [if_pos q]
    obtain ⟨t1, t2, t3⟩ := t hm
    rw [q] at t2
    exact t2.symm
  · cases hm
theorem of_good {b : List Int} {U : UnitA} (h : Good b U) : unL (markL b) = (U, ([], false)) := by
  obtain ⟨hr, rfl⟩ := h
  have e : markL (bytesU U) = (bodyU U, false) := by
    have h4 : ¬ ((([84, 87, 49, 0] ++ bodyU U : List Int).length : Int) < 4) := by rw [List.length_append]; simp; omega
    unfold markL bytesU cutR
    simp only
    rw [if_neg h4]
    simp
  rw [e]
  exact unL_body (right_u hr).fit
theorem good_one {b : List Int} {U V : UnitA} (h : Good b U) (g : Good b V) : U = V := bytes_inj h.1 g.1 (h.2.trans g.2.symm)
theorem good_le {b : List Int} {U : UnitA} (h : Good b U) : b.length ≤ 31768 := by rw [← h.2]; exact bytes_le (right_u h.1)
end Wd
end Go.Proofs.YtgfnelhbdhbklaaGreat

/- The landed image, read: bytes taken, a number, a length, a text. -/
namespace Go.Proofs.YtgfnelhbdhbklaaGreat
open Go.RowKit
set_option linter.unusedVariables false
set_option maxRecDepth 20000
namespace Wd
/-- what a slice may look like that is read from -/
def SlF (v : Value) : Prop := v = .slice none 0 0 ∨ ∃ g off n cap, v = .slice (some ⟨g, off, none⟩) n cap
/-- a reader: its box, what is still to come -/
structure RI (w y : World) (p : Nat) (v : Value) (s : Rd8) : Prop where
  h : y.heap[p]? = some (.cells #[v, .bool s.2] 85 (0, 0))
  b : ByV w v s.1
  bel : Below w.heap.size w y
  lo : w.heap.size ≤ p
  f : SlF v
section
variable {w y y1 : World} {p : Nat} {v : Value} {s : Rd8}
theorem RI.c0 (h : RI w y p v s) : y.cell? ⟨p, 0, none⟩ = some v := cells_at h.h rfl
theorem RI.c1 (h : RI w y p v s) : y.cell? ⟨p, 1, none⟩ = some (.bool s.2) := cells_at h.h rfl
theorem RI.z (h : RI w y p v s) (o : Nat) : y.frozen? ⟨p, o, none⟩ = false := loose_at h.h o
theorem RI.lt (h : RI w y p v s) : p < y.heap.size := (Array.getElem?_eq_some_iff.1 h.h).1
theorem RI.up (h : RI w y p v s) (b : Below y.heap.size y y1) : RI w y1 p v s := ⟨(b.block p h.lt).trans h.h, h.b, h.bel.trans (b.mono h.bel.size), h.lo, h.f⟩
theorem RI.bd (h : RI w y p v s) : Bd8 s.1 := fun x hx => by
  obtain ⟨k, hk⟩ := List.getElem?_of_mem hx
  obtain ⟨ad, cap, e, h1, h2, h3⟩ := h.b.ex
  exact (h3 k x hk).1
theorem RI.cg {F : Nat → Prop} (h : RI w y p v s) (c : Cg F y y1) (hF : ∀ k, F k → k ≠ p ∧ w.heap.size ≤ k) : RI w y1 p v s :=
  ⟨(c.block p h.lt (fun e => (hF p e).1 rfl)).trans h.h, h.b, wr_bel c (fun k e => (hF k e).2) (Nat.le_refl _) h.bel, h.lo, h.f⟩
theorem RI.set1 (h : RI w y p v s) (b : Bool) : RI w (y.setCell ⟨p, 1, none⟩ (.bool b)) p v (s.1, b) ∧ Cg (fun k => k = p) y (y.setCell ⟨p, 1, none⟩ (.bool b)) := by
  have c := (Cg.refl (fun k => k = p) y).set ⟨p, 1, none⟩ rfl (.bool b)
  refine ⟨⟨?_, h.b, wr_bel c (fun k e => e ▸ h.lo) (Nat.le_refl _) h.bel, h.lo, h.f⟩, c⟩
  rw [setCell_eq_setRow y p 1 _ _ _ _ h.h]
  exact setRow_heap y p _ _ _ _ h.h
theorem RI.set0 (h : RI w y p v s) {v' : Value} {L : List Int} (hv : ByV w v' L) (hf : SlF v') : RI w (y.setCell ⟨p, 0, none⟩ v') p v' (L, s.2) ∧ Cg (fun k => k = p) y (y.setCell ⟨p, 0, none⟩ v') := by
  have c := (Cg.refl (fun k => k = p) y).set ⟨p, 0, none⟩ rfl v'
  refine ⟨⟨?_, hv, wr_bel c (fun k e => e ▸ h.lo) (Nat.le_refl _) h.bel, h.lo, hf⟩, c⟩
  rw [setCell_eq_setRow y p 0 _ _ _ _ h.h]
  exact setRow_heap y p _ _ _ _ h.h
end
theorem byv_nil {w : World} : ByV w (.slice none 0 0) [] := ⟨none, 0, rfl, Nat.le_refl _, Nat.zero_le _, fun k x hx => by cases hx⟩
theorem cutR_no {n : Int} {s : Rd8} (h : (s.1.length : Int) < n) : cutR n s = ([], (s.1, true)) := if_pos h
theorem cutR_yes {n : Nat} {s : Rd8} (h : n ≤ s.1.length) : cutR n s = (s.1.take n, (s.1.drop n, s.2)) := by
  unfold cutR
  rw [if_neg (by omega), Int.toNat_natCast]
set_option maxHeartbeats 16000000 in
theorem take_c {w y : World} {p : Nat} {v : Value} {s : Rd8} (h : RI w y p v s) (k : Nat) (hk64 : k < 9223372036854775808) :
    Calls Tryz.prog 68 #[.pointer (some ⟨p, 0, none⟩), .int .i64 k] y fun e y' => (∃ t, e = .returned t ∧ SlF t ∧ ByV w t (cutR k s).1) ∧ (∃ v', RI w y' p v' (cutR k s).2) ∧ Cg (fun k => k = p) y y' := by
  have hmx' : maxLen ≤ 9223372036854775807 := by decide
  by_cases hno : (s.1.length : Int) < k
  · rw [cutR_no hno]
    obtain ⟨ad, cap, rfl, hcap, hmx⟩ := h.b.form
    obtain ⟨n, hn⟩ : ∃ n, n = s.1.length := ⟨_, rfl⟩
    rw [← hn] at h hcap hno
    have d0 : decide ((n : Int) < (k : Int)) = true := by simpa using hno
    replace hn := Lib.hid hn
    replace h := Lib.hid h
    have c0 := h.out.c0
    have c1 := h.out.c1
    have z1 := h.out.z 1
    go_enter Tryz.func68, Tryz.ntmps68
    go_wp2
    go_ret
    exact ⟨⟨_, rfl, Or.inl rfl, byv_nil⟩, ⟨_, (h.out.set1 true).1⟩, (h.out.set1 true).2⟩
  · have hkM : k ≤ s.1.length := by omega
    rw [cutR_yes hkM]
    rcases h.f with hf | hf
    · subst hf
      have hl0 : s.1.length = 0 := by
        obtain ⟨_, _, ev, hcap, hmx⟩ := h.b.form
        injection ev with _ hl1 _
        exact hl1.symm
      have hk0 : k = 0 := by omega
      obtain ⟨M, b⟩ := s
      obtain rfl := List.length_eq_zero_iff.1 hl0
      subst hk0
      replace h := Lib.hid h
      have c0 := h.out.c0
      have z0 := h.out.z 0
      clear hno hl0 hkM
      go_enter Tryz.func68, Tryz.ntmps68
      go_wp2
      go_ret
      have hq := h.out.set0 byv_nil (Or.inl rfl)
      exact ⟨⟨_, rfl, Or.inl rfl, byv_nil⟩, ⟨_, hq.1⟩, hq.2⟩
    · obtain ⟨g, off, n, cap, rfl⟩ := hf
      obtain ⟨_, _, ev, hcap, hmx⟩ := h.b.form
      cases ev
      obtain ⟨n, hn⟩ : ∃ n, n = s.1.length := ⟨_, rfl⟩
      replace hcap : s.1.length ≤ cap := hcap
      have PT := Lib.hid (ByV.take h.b k hkM)
      rw [← hn] at h hcap hkM hno
      have d0 : decide ((n : Int) < (k : Int)) = false := by simpa using hno
      have hbv := Lib.hid h.b
      replace hn := Lib.hid hn
      have hR := Lib.hid h
      clear h
      have c0 := hR.out.c0
      have z0 := hR.out.z 0
      clear hno
      go_enter Tryz.func68, Tryz.ntmps68
      go_wp2
      · go_ret
        rename cap = k => hck
        have hq := hR.out.set0 (ByV.dropE hbv.out k hkM hck) (Or.inr ⟨_, _, _, _, rfl⟩)
        have PT2 := PT.out
        rw [hck] at PT2
        exact ⟨⟨_, rfl, Or.inr ⟨_, _, _, _, rfl⟩, PT2⟩, ⟨_, hq.1⟩, hq.2⟩
      · go_ret
        have hq := hR.out.set0 (ByV.drop hbv.out k hkM) (Or.inr ⟨_, _, _, _, rfl⟩)
        exact ⟨⟨_, rfl, Or.inr ⟨_, _, _, _, rfl⟩, PT.out⟩, ⟨_, hq.1⟩, hq.2⟩
theorem take_i {w y : World} {p : Nat} {v : Value} {s : Rd8} (h : RI w y p v s) (k : Int) (h0 : 0 ≤ k) (h1 : k < 9223372036854775808) :
    Calls Tryz.prog 68 #[.pointer (some ⟨p, 0, none⟩), .int .i64 k] y fun e y' => (∃ t, e = .returned t ∧ SlF t ∧ ByV w t (cutR k s).1) ∧ (∃ v', RI w y' p v' (cutR k s).2) ∧ Cg (fun k => k = p) y y' := by
  obtain ⟨n, rfl⟩ : ∃ n : Nat, k = n := ⟨k.toNat, by omega⟩
  exact take_c h n (by omega)
end Wd
end Go.Proofs.YtgfnelhbdhbklaaGreat

/- The landed image, read: a number, a length, a text. -/
namespace Go.Proofs.YtgfnelhbdhbklaaGreat
open Go.RowKit
set_option linter.unusedVariables false
set_option maxRecDepth 20000
namespace Wd
def acc8 (L : List Int) : Int := L.foldl (fun w c => w * 256 + c) 0
theorem acc8_next {L : List Int} {k : Nat} {x : Int} (h : L[k]? = some x) : acc8 (L.take (k + 1)) = acc8 (L.take k) * 256 + x := by
  unfold acc8
  rw [List.take_add_one, h]
  simp
theorem foldl8 : ∀ (L : List Int) (z : Int) (m : Int), Bd8 L → 0 ≤ z → z < m → 0 ≤ L.foldl (fun w c => w * 256 + c) z ∧ L.foldl (fun w c => w * 256 + c) z < m * 256 ^ L.length
  | [], z, m, _, h0, h1 => by simp; omega
  | x :: L, z, m, hb, h0, h1 => by
    have hx := hb.head
    have := foldl8 L (z * 256 + x) (m * 256) hb.tail (by omega) (by omega)
    rw [List.foldl_cons, List.length_cons, Int.pow_succ, Int.mul_comm (256 ^ L.length), ← Int.mul_assoc]
    exact this
theorem acc8_bd {L : List Int} (h : Bd8 L) {k : Nat} (hk : k < 4) : 0 ≤ acc8 (L.take k) ∧ acc8 (L.take k) < 16777216 := by
  have := foldl8 (L.take k) 0 1 (h.take k) (by omega) (by omega)
  have hl : (L.take k).length ≤ 3 := by rw [List.length_take]; omega
  unfold acc8
  refine ⟨this.1, Int.lt_of_lt_of_le this.2 ?_⟩
  rcases (show (L.take k).length = 0 ∨ (L.take k).length = 1 ∨ (L.take k).length = 2 ∨ (L.take k).length = 3 by omega) with e | e | e | e <;> rw [e] <;> decide
theorem numL_cut (s : Rd8) : numL s = (i32 (acc8 (cutR 4 s).1), (cutR 4 s).2) ∧ ((cutR 4 s).1.length = 0 ∨ (cutR 4 s).1.length = 4) := by
  by_cases q : s.1.length < 4
  · rw [numL_no q, cutR_no (by omega)]
    exact ⟨rfl, Or.inl rfl⟩
  · obtain ⟨a, b, c, d, L, e, e2⟩ := numL_yes q
    have e3 : cutR 4 s = (s.1.take 4, (s.1.drop 4, s.2)) := cutR_yes (n := 4) (by omega)
    rw [e2, e3, e]
    refine ⟨?_, Or.inr (by simp)⟩
    have : acc8 (List.take 4 (a :: b :: c :: d :: L)) = a * 16777216 + b * 65536 + c * 256 + d := by
      show ((((0 * 256 + a) * 256 + b) * 256 + c) * 256 + d : Int) = _
      omega
    rw [this]
    rfl
theorem acc8_step {z c : Int} (h0 : 0 ≤ z) (h1 : z < 16777216) (hc : 0 ≤ c ∧ c ≤ 255) : bits .or .u32 (z * 256 % 4294967296) c = z * 256 + c := by
  obtain ⟨z, rfl⟩ : ∃ k : Nat, z = k := ⟨z.toNat, by omega⟩
  obtain ⟨c, rfl⟩ : ∃ k : Nat, c = k := ⟨c.toNat, by omega⟩
  have e1 : ((z : Int) * 256) % 4294967296 = ((z * 256 : Nat) : Int) := by omega
  rw [e1, bits_or32 _ _ (by omega) (by omega)]
  have := Nat.two_pow_add_eq_or_of_lt (i := 8) (b := c) (by omega) z
  rw [show 2 ^ 8 * z = z * 256 by omega] at this
  rw [← this]
  omega
set_option maxHeartbeats 16000000 in
theorem number_c {w y : World} {p : Nat} {v : Value} {s : Rd8} (h : RI w y p v s) :
    Calls Tryz.prog 77 #[.pointer (some ⟨p, 0, none⟩)] y fun e y' => e = .returned (.int .i64 (numL s).1) ∧ (∃ v', RI w y' p v' (numL s).2) ∧ Cg (fun k => k = p) y y' := by
  have hmx' : maxLen ≤ 9223372036854775807 := by decide
  obtain ⟨hN, hL⟩ := numL_cut s
  have P1 := Lib.hid (take_i h 4 (by omega) (by omega))
  have hB := ((cutR_all 4 (by omega) s).2.2.1 h.bd).2
  rw [hN]
  generalize cutR 4 s = r at hL P1 hB ⊢
  obtain ⟨T, s1⟩ := r
  simp only at hL P1 hB ⊢
  have hL' := Lib.hid hL
  have hB' := Lib.hid hB
  clear hN hB hL h
  go_enter Tryz.func77, Tryz.ntmps77
  go_wp2_with fail
  with_reducible refine P1.out.mono ?_
  rintro e1 y1 ⟨⟨t, rfl, hf, ht⟩, ⟨v1, hR⟩, hc⟩
  obtain ⟨ad, cap, rfl, hcap, hmx⟩ := ht.form
  obtain ⟨n, hn⟩ : ∃ n, n = T.length := ⟨_, rfl⟩
  rw [← hn] at ht hcap ⊢
  have hn4 : n ≤ 4 := by rw [hn]; rcases hL'.out with e | e <;> omega
  replace hn := Lib.hid hn
  replace hR := Lib.hid hR
  replace hc := Lib.hid hc
  replace ht := Lib.hid ht
  clear P1 hf hmx
  go_wp2
  have hst : Hid ((0 : Int) = acc8 (T.take 0)) := Lib.hid rfl
  go_loopw [3, 9] (fun i3 i9 wr => ∃ (k : Nat) (z : Int), k ≤ n ∧ i9 = .int .i64 k ∧ i3 = .int .u32 z ∧ Hid (z = acc8 (T.take k)) ∧ Hid (RI w wr p v1 s1) ∧ Hid (Cg (fun k => k = p) y wr)) (fun _ i9 _ => n - (intOf i9).toNat)
  case atStart => exact ⟨0, 0, by omega, rfl, rfl, hst, hR, hc⟩
  case round =>
    clear hst hR hc
    obtain ⟨k, z, hk, rfl, rfl, hz, hR, hc⟩ := hrel
    by_cases hlt : k < n
    · have d1 : decide ((k : Int) < (n : Int)) = true := by simp; omega
      have p0 : (0 : Int) ≤ (k : Int) := by omega
      have p1 : (k : Int) < (n : Int) := by omega
      obtain ⟨x, hx⟩ : ∃ x, T[k]? = some x := ⟨T[k]'(by have := hn.out; omega), by simp⟩
      obtain ⟨x8, g, off, rfl, c0⟩ := (ht.out.up hR.out.bel).at hx
      obtain ⟨b0, b1⟩ := acc8_bd hB'.out (show k < 4 by omega)
      rw [← hz.out] at b0 b1
      have hst := acc8_step b0 b1 x8
      have hz2 : Hid (z * 256 + x = acc8 (T.take (k + 1))) := Lib.hid (by rw [acc8_next hx, ← hz.out])
      have hst2 := Lib.hid hst
      clear hst hx hz b0 b1
      go_wp2
      go_roundw
      case rel =>
        refine ⟨k + 1, z * 256 + x, by omega, by go_num, ?_, hz2, hR, hc⟩
        exact congrArg (Value.int .u32) hst2.out
      case measure => simp [intOf]; omega
    · have d1 : decide ((k : Int) < (n : Int)) = false := by simp; omega
      have hfin : Hid (wrap64 (wrap32 z) = i32 (acc8 T)) := Lib.hid (by
        have eW : wrap64 (wrap32 z) = IntKind.i64.wrap (IntKind.i32.wrap z) := by
          rw [IntKind.wrap_i32, IntKind.wrap_i64]
          unfold wrap64 wrap32
          omega
        rw [eW]
        have e := hz.out
        rw [show k = T.length by have := hn.out; omega, List.take_length] at e
        rw [e]
        have := foldl8 T 0 1 hB'.out (by omega) (by omega)
        refine wrap_num _ ⟨this.1, Int.lt_of_lt_of_le this.2 ?_⟩
        rcases hL'.out with e | e <;> rw [e] <;> decide)
      clear hz
      go_wp2
      go_ret
      exact ⟨congrArg (fun b => Ending.returned (Value.int .i64 b)) hfin.out, ⟨_, hR.out⟩, hc.out⟩
set_option maxHeartbeats 16000000 in
theorem length_c {w y : World} {p : Nat} {v : Value} {s : Rd8} (h : RI w y p v s) :
    Calls Tryz.prog 96 #[.pointer (some ⟨p, 0, none⟩)] y fun e y' => e = .returned (.int .i64 (lenL s).1) ∧ (∃ v', RI w y' p v' (lenL s).2) ∧ Cg (fun k => k = p) y y' := by
  have P1 := number_c h
  have hl : lenL s = if (numL s).1 < 0 then (0, ((numL s).2.1, true)) else numL s := rfl
  rw [hl]
  clear hl h
  generalize numL s = r at P1 ⊢
  obtain ⟨x, s1⟩ := r
  simp only at P1 ⊢
  replace P1 := Lib.hid P1
  by_cases hx : x < 0
  · rw [if_pos hx]
    have d0 : decide (x < 0) = true := by simpa using hx
    clear hx
    go_enter Tryz.func96, Tryz.ntmps96
    go_upto_region 2 with (first | (go_at_call 77; ((with_reducible refine P1.out.mono ?_); rintro e1 y1 ⟨rfl, ⟨v1, hR⟩, hc⟩)))
    clear P1
    replace hR := Lib.hid hR
    replace hc := Lib.hid hc
    have c1 := hR.out.c1
    have z1 := hR.out.z 1
    go_wp2
    go_ret
    exact ⟨rfl, ⟨_, (hR.out.set1 true).1⟩, hc.out.trans (hR.out.set1 true).2⟩
  · rw [if_neg hx]
    have d0 : decide (x < 0) = false := by simpa using hx
    clear hx
    go_enter Tryz.func96, Tryz.ntmps96
    go_upto_region 2 with (first | (go_at_call 77; ((with_reducible refine P1.out.mono ?_); rintro e1 y1 ⟨rfl, ⟨v1, hR⟩, hc⟩)))
    clear P1
    replace hR := Lib.hid hR
    replace hc := Lib.hid hc
    go_wp2
    go_ret
    exact ⟨rfl, ⟨_, hR.out⟩, hc.out⟩
set_option maxHeartbeats 16000000 in
/-- so many bytes, with their number ahead -/
theorem itext_c {w y : World} {p : Nat} {v : Value} {s : Rd8} (h : RI w y p v s) :
    Calls Tryz.prog 70 #[.pointer (some ⟨p, 0, none⟩)] y fun e y' => e = .returned (.string (nmL s).1) ∧ (∃ v', RI w y' p v' (nmL s).2) ∧ Cg (fun k => k = p) y y' := by
  have P1 := length_c h
  have hl : nmL s = (textOf (cutR (lenL s).1 (lenL s).2).1, (cutR (lenL s).1 (lenL s).2).2) := rfl
  have hp := lenL_pos s
  have hr := lenL_R h.bd
  rw [hl]
  clear hl h
  generalize lenL s = r at P1 hp hr ⊢
  obtain ⟨x, s1⟩ := r
  simp only at P1 hp hr ⊢
  obtain ⟨k, rfl⟩ : ∃ k : Nat, x = k := ⟨x.toNat, by omega⟩
  replace P1 := Lib.hid P1
  clear hp
  go_enter Tryz.func70, Tryz.ntmps70
  go_wp2_with fail
  with_reducible refine P1.out.mono ?_
  rintro e1 y1 ⟨rfl, ⟨v1, hR⟩, hc⟩
  have P2 := Lib.hid (take_c hR k (by omega))
  replace hc := Lib.hid hc
  clear P1 hR
  go_wp2_with fail
  with_reducible refine P2.out.mono ?_
  rintro e2 y2 ⟨⟨t, rfl, hf, ht⟩, ⟨v2, hR⟩, hc2⟩
  have PT := by_text (ht.up hR.bel)
  replace hR := Lib.hid hR
  replace hc := Lib.hid (hc.out.trans hc2)
  clear hc2 P2 hf
  replace ht := Lib.hid ht
  go_wp2
  go_ret
  exact ⟨rfl, ⟨_, hR.out⟩, hc.out⟩
end Wd
end Go.Proofs.YtgfnelhbdhbklaaGreat

/- Rows that grow, and what lies inside them: views that stay, whatever else changes. -/
namespace Go.Proofs.YtgfnelhbdhbklaaGreat
open Go.RowKit
set_option linter.unusedVariables false
set_option maxRecDepth 20000
namespace Wd
/-- a view that stays whatever changes but for I -/
def Stay (I : Nat → Prop) (w : World) (P : World → Prop) : Prop := ∀ w2, Cg (fun k => ¬ I k) w w2 → P w2
section
variable {I I' F : Nat → Prop} {w w1 : World} {P Q : World → Prop}
theorem Stay.now (h : Stay I w P) : P w := h w (Cg.refl _ _)
theorem Stay.cg (h : Stay I w P) (c : Cg F w w1) (hF : ∀ k, F k → ¬ I k) : Stay I w1 P := fun w2 c2 => h w2 ((c.mono hF).trans c2)
theorem Stay.more (h : Stay I w P) (hI : ∀ k, I k → I' k) : Stay I' w P := fun w2 c => h w2 (c.mono (fun k hk hi => hk (hI k hi)))
theorem Stay.imp (h : Stay I w P) (hQ : ∀ w2, P w2 → Q w2) : Stay I w Q := fun w2 c => hQ w2 (h w2 c)
theorem Stay.and (h : Stay I w P) (g : Stay I w Q) : Stay I w (fun w2 => P w2 ∧ Q w2) := fun w2 c => ⟨h w2 c, g w2 c⟩
theorem Stay.const {p : Prop} (h : p) : Stay I w (fun _ => p) := fun _ _ => h
theorem stay_byv {v : Value} {L : List Int} (h : ByV w v L) : Stay (fun k => v.ownBlock = some k) w (fun w2 => ByV w2 v L) := fun w2 c => h.far c (fun _ k hk hn => hn hk)
end
/-- a row that grows: its cells, and what its elements lead to -/
structure GrX {α : Type} (T : TypeId) (sz : Nat) (f : List α → List Value) (Q : α → World → Prop) (b : Nat) (wr : World) (I : Nat → Prop) (v : Value) (A : List α) : Prop where
  own : wr.ownsRow b T sz v A.length (f A)
  inn : ∀ x ∈ A, Stay I wr (Q x)
  ap : ∀ k, v.ownBlock = some k → ¬ I k
  lo : ∀ k, I k → b ≤ k ∧ k < wr.heap.size
section
variable {α : Type} {T : TypeId} {sz : Nat} {f : List α → List Value} {Q : α → World → Prop} {b : Nat} {wr w1 w2 w5 : World} {I F : Nat → Prop} {v v' : Value} {A : List α} {x : α}
theorem GrX.nil (hf : f [] = []) : GrX T sz f Q b wr (fun _ => False) (.slice none 0 0) [] :=
  ⟨⟨(by rw [hf]; simp), Or.inl ⟨rfl, rfl⟩⟩, (fun x hx => by cases hx), (fun k _ h => h), (fun k h => False.elim h)⟩
theorem GrX.cg (h : GrX T sz f Q b wr I v A) (c : Cg F wr w1) (hF : ∀ k, F k → k < b) : GrX T sz f Q b w1 I v A :=
  ⟨row_cg h.own c (fun k hk hf => by have := (h.own.lt k hk).1; have := hF k hf; omega), (fun x hx => (h.inn x hx).cg c (fun k hf hi => by have := (h.lo k hi).1; have := hF k hf; omega)), h.ap, fun k hi => ⟨(h.lo k hi).1, Nat.lt_of_lt_of_le (h.lo k hi).2 c.size⟩⟩
theorem GrX.up (h : GrX T sz f Q b wr I v A) (c : Below wr.heap.size wr w1) : GrX T sz f Q b w1 I v A := h.cg (F := fun _ => False) (Cg.below _ c) (fun _ e => e.elim)
/-- one more: what was made for it lies behind w0 -/
theorem GrX.push {J : Nat → Prop} {s : Nat} (h : GrX T sz f Q b w1 I v A) (hx : Stay J w1 (Q x)) (hJ : ∀ k, J k → s ≤ k ∧ k < w1.heap.size) (hs : ∀ k, v.ownBlock = some k → k < s) (hbs : b ≤ s)
    {wA : World} (hA : Below w1.heap.size w1 wA)
    (ho : w5.ownsRow b T sz v' (A.length + 1) (f A ++ f [x])) (hg : wA.grownBy w5 v.ownBlock) (hat : ∀ k, v'.ownBlock = some k → v.ownBlock = some k ∨ k = wA.heap.size) (hf : f (A ++ [x]) = f A ++ f [x]) :
    GrX T sz f Q b w5 (fun k => I k ∨ J k) v' (A ++ [x]) := by
  have c : Cg (fun k => v.ownBlock = some k) w1 w5 := (Cg.below (fun k => v.ownBlock = some k) hA).grown hg (fun k e => Or.inl e)
  have hJv : ∀ k, v.ownBlock = some k → ¬ J k := fun k hk hj => by have := hs k hk; have := (hJ k hj).1; omega
  have hA' := hA.size
  refine ⟨by rw [hf, List.length_append]; exact ho, fun y hy => ?_, fun k hk hi => ?_, fun k hi => ?_⟩
  · rcases List.mem_append.1 hy with hy | hy
    · exact ((h.inn y hy).cg c (fun k hk => h.ap k hk)).more (fun k e => Or.inl e)
    · obtain rfl := List.mem_singleton.1 hy
      exact (hx.cg c (fun k hk => hJv k hk)).more (fun k e => Or.inr e)
  · rcases hat k hk with e | e
    · rcases hi with hi | hi
      · exact h.ap k e hi
      · exact hJv k e hi
    · rcases hi with hi | hi
      · have := (h.lo k hi).2; omega
      · have := (hJ k hi).2; omega
  · have := c.size
    rcases hi with hi | hi
    · exact ⟨(h.lo k hi).1, Nat.lt_of_lt_of_le (h.lo k hi).2 this⟩
    · exact ⟨Nat.le_trans hbs (hJ k hi).1, Nat.lt_of_lt_of_le (hJ k hi).2 this⟩
/-- the whole row as a view -/
theorem GrX.stay {P : World → Prop} (h : GrX T sz f Q b wr I v A) (hP : ∀ w2, w2.ownsRow b T sz v A.length (f A) → (∀ x ∈ A, Q x w2) → P w2) : Stay (fun k => I k ∨ v.ownBlock = some k) wr P := fun w2 c =>
  hP w2 (row_cg h.own c (fun k hk hn => hn (Or.inr hk))) (fun x hx => h.inn x hx w2 (c.mono (fun k hk hi => hk (Or.inl hi))))
theorem GrX.lo2 (h : GrX T sz f Q b wr I v A) : ∀ k, (I k ∨ v.ownBlock = some k) → b ≤ k ∧ k < wr.heap.size := fun k hk => hk.elim (h.lo k) (h.own.lt k)
end
/-- what elements lead to -/
def Qn (x : ByteArray) (w : World) : Prop := True
def Qp (x : Int × Int) (w : World) : Prop := In64 x.1 ∧ In64 x.2
def Qc (x : ClassA × Value) (w : World) : Prop := In64 x.1.super ∧ In64 x.1.fields ∧ PrV w x.2 x.1.binds
def Qm (x : MethA × Value × Value) (w : World) : Prop := In64 x.1.args ∧ In64 x.1.temps ∧ PrV w x.2.1 x.1.lits ∧ ByV w x.2.2 x.1.code
def Qo (x : ObjA × Value) (w : World) : Prop := In64 x.1.cls ∧ PrV w x.2 x.1.flds
abbrev GrN := GrX 9 1 strs Qn
abbrev GrV := GrX 68 2 pr2 Qp
abbrev GrB := GrX 66 2 pr2 Qp
abbrev GrC := GrX 60 4 cl4s Qc
abbrev GrM := GrX 63 4 mt4s Qm
abbrev GrO := GrX 55 2 ob2s Qo
section
variable {b : Nat} {wr : World} {I : Nat → Prop} {v : Value}
theorem GrX.nmv {A : List ByteArray} (h : GrN b wr I v A) : Stay (fun k => I k ∨ v.ownBlock = some k) wr (fun w => NmV w v A) := h.stay (fun w2 ho _ => NmV.own2 ho)
theorem GrX.prv {T : TypeId} {A : List (Int × Int)} (h : GrX T 2 pr2 Qp b wr I v A) : Stay (fun k => I k ∨ v.ownBlock = some k) wr (fun w => PrV w v A) := h.stay (fun w2 ho hq => PrV.own ho hq)
theorem GrX.clv {A : List (ClassA × Value)} (h : GrC b wr I v A) : Stay (fun k => I k ∨ v.ownBlock = some k) wr (fun w => ClV w v (A.map (·.1))) := h.stay (fun w2 ho hq => ClV.own ho hq)
theorem GrX.mtv {A : List (MethA × Value × Value)} (h : GrM b wr I v A) : Stay (fun k => I k ∨ v.ownBlock = some k) wr (fun w => MtV w v (A.map (·.1))) := h.stay (fun w2 ho hq => MtV.own ho hq)
theorem GrX.obv {A : List (ObjA × Value)} (h : GrO b wr I v A) : Stay (fun k => I k ∨ v.ownBlock = some k) wr (fun w => ObV w v (A.map (·.1))) := h.stay (fun w2 ho hq => ObV.own ho hq)
end
/-- how many there are: each is read out of a byte at least -/
def Few (N : Nat) (n : Nat) (s : Rd8) : Prop := n ≤ N + 1 ∧ (s.2 = false → n + s.1.length ≤ N)
theorem Few.start (s : Rd8) : Few s.1.length 0 s := ⟨by omega, fun _ => by omega⟩
theorem Few.next {N n : Nat} {s s' : Rd8} (h : Few N n s) (hs : s.2 = false) (h1 : s'.2 = true ∨ s'.1.length < s.1.length) : Few N (n + 1) s' := by
  have := h.2 hs
  refine ⟨by omega, fun e => ?_⟩
  rcases h1 with h1 | h1
  · rw [h1] at e; cases e
  · omega
end Wd
end Go.Proofs.YtgfnelhbdhbklaaGreat
