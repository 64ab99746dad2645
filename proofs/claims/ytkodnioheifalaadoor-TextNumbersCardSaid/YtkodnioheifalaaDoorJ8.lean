/- Texts joined: OTape, OShell, TXA, TXB, TXC, SPure, TB, UNS, UNT, UNU, LIB, TLA, TSB. -/
import Derived.Test.YtkodnioheifalaaDoorCards
import Derived.Test.YtkodnioheifalaaDoorProg
import Derived.Test.YtkodnioheifalaaDoorTie
import Derived.Test.YtkodnioheifalaaDoorJ1
import Derived.Test.YtkodnioheifalaaDoorJ3
import Derived.Test.YtkodnioheifalaaDoorJ7
import Derived.Maps.AppendAt
import Derived.Deep.AppendLies
import Derived.SizedLaws
import Derived.ProofKit
import Derived.OpenShut
import Derived.Carry
import Derived.WalkKit
import Derived.LoopN
import Derived.Deep.RegionHeld3
import Derived.Deep.RegionWith
import Derived.StillTailTactics
import Derived.Laws.IdiomStrings
import Derived.Shelf.Strings.Builder1
import Derived.Shelf.Small.Wraps
import Derived.Shelf.LaysM
import Derived.Shelf.Strconv.Itoa3
import Derived.Shelf.Strconv.Itoa4
import Derived.Shelf.Strings.Search1
import Derived.Shelf.Strings.Search2
import Derived.ChangeMaps5
import Derived.Deep.DeepHandedRow
import Derived.Lib.LaidTab
import Derived.Stop.LaidErr
/- A tape's program, by value. -/
namespace Go.Proofs.YtkodnioheifalaaDoor
open Go.RowKit
set_option linter.unusedVariables false
set_option maxRecDepth 20000
namespace Wd
/-- numbers that came in -/
def NumA (w : World) (ad : Option Addr) (n : Nat) : Prop := ∀ k, k < n → ∃ (g off : Nat) (x : Int), ad = some ⟨g, off, none⟩ ∧ (-9223372036854775808 ≤ x ∧ x ≤ 9223372036854775807) ∧ w.cell? ⟨g, off + k, none⟩ = some (.int .i64 x)
theorem NumA.up {w w1 : World} {ad : Option Addr} {n : Nat} (h : NumA w ad n) (b : Below w.heap.size w w1) : NumA w1 ad n := fun k hk => by
  obtain ⟨g, off, x, e, h1, h2⟩ := h k hk
  exact ⟨g, off, x, e, h1, cell_up b h2⟩
theorem tape_tp {w : World} {ad : Option Addr} {n cap : Nat} (h : NumA w ad n) (hn : n ≤ 4611686018427387904) : Tp (w.alloc (.cells #[.slice ad n cap, .int .i64 0] 32)) w.heap.size ad n := by
  refine ⟨⟨cap, by simp⟩, ⟨0, by omega, by simp⟩, World.frozen?_alloc_new _ _ _ _, fun k hk => ?_, hn⟩
  obtain ⟨g, off, x, e, b, c⟩ := h k hk
  have hg := World.block_lt_of_cell? w _ c
  exact ⟨g, off, x, e, by simp only at hg; omega, b, (World.cell?_alloc_old _ _ _ (Nat.ne_of_lt hg)).trans c⟩
theorem unit_bel {w w' : World} {c : Obj} (h : Cg (fun k => k = w.heap.size) (w.alloc c) w') : Below w.heap.size w w' :=
  ⟨h.os, h.tape, h.output, by have := h.size; simp at this; omega, fun k hk => (h.block k (by simp; omega) (by omega)).trans (Below.heap_alloc _ _ _ hk)⟩
/-- a tape's program, with the rows of its methods: it lies in blocks from s on -/
structure UnT (s : Nat) (w : World) (v : Value) (U : UnitA) (g cap : Nat) (M : List (MethA × Value × Value)) : Prop where
  ex : ∃ na nc ca cc oa oc, v = .agg #[.slice na U.names.length nc, .slice ca U.classes.length cc, .slice (some ⟨g, 0, none⟩) U.methods.length cap, .slice oa U.objects.length oc, .int .i64 U.main]
  un : ∀ (G : Nat → Prop) (w2 : World), Cg G w w2 → (∀ k, G k → k < s) → UnK w2 v U
  mm : M.map (·.1) = U.methods
  ms : ∀ (G : Nat → Prop) (w2 : World), Cg G w w2 → (∀ k, G k → k < s) → ∀ (k : Nat) x, M[k]? = some x → w2.cell? ⟨g, k * 4, none⟩ = some (.int .i64 x.1.args) ∧ w2.cell? ⟨g, k * 4 + 1, none⟩ = some (.int .i64 x.1.temps) ∧ w2.cell? ⟨g, k * 4 + 2, none⟩ = some x.2.1 ∧ w2.cell? ⟨g, k * 4 + 3, none⟩ = some x.2.2 ∧ In64 x.1.args ∧ In64 x.1.temps ∧ PrV w2 x.2.1 x.1.lits ∧ ByV w2 x.2.2 x.1.code
  ta : TapeU U
theorem UnT.cg {s : Nat} {w w1 : World} {v : Value} {U : UnitA} {g cap : Nat} {M : List (MethA × Value × Value)} (h : UnT s w v U g cap M) {F : Nat → Prop} (c : Cg F w w1) (hF : ∀ k, F k → k < s) : UnT s w1 v U g cap M :=
  ⟨h.ex, fun G w2 hG hl => h.un (fun k => F k ∨ G k) w2 ((c.mono (fun k hk => Or.inl hk)).trans (hG.mono (fun k hk => Or.inr hk))) (fun k hk => hk.elim (hF k) (hl k)), h.mm,
    fun G w2 hG hl => h.ms (fun k => F k ∨ G k) w2 ((c.mono (fun k hk => Or.inl hk)).trans (hG.mono (fun k hk => Or.inr hk))) (fun k hk => hk.elim (hF k) (hl k)), h.ta⟩
theorem UnT.up {s : Nat} {w w1 : World} {v : Value} {U : UnitA} {g cap : Nat} {M : List (MethA × Value × Value)} (h : UnT s w v U g cap M) (b : Below w.heap.size w w1) : UnT s w1 v U g cap M := h.cg (Cg.below (fun _ => False) b) (fun _ e => e.elim)
theorem UnT.k {s : Nat} {w : World} {v : Value} {U : UnitA} {g cap : Nat} {M : List (MethA × Value × Value)} (h : UnT s w v U g cap M) : UnK w v U := h.un (fun _ => False) w (Cg.refl _ _) (fun _ e => e.elim)
theorem UnT.m {s : Nat} {w : World} {v : Value} {U : UnitA} {g cap : Nat} {M : List (MethA × Value × Value)} (h : UnT s w v U g cap M) {k : Nat} {x : MethA × Value × Value} (hx : M[k]? = some x) : w.cell? ⟨g, k * 4, none⟩ = some (.int .i64 x.1.args) ∧ w.cell? ⟨g, k * 4 + 1, none⟩ = some (.int .i64 x.1.temps) ∧ w.cell? ⟨g, k * 4 + 2, none⟩ = some x.2.1 ∧ w.cell? ⟨g, k * 4 + 3, none⟩ = some x.2.2 ∧ In64 x.1.args ∧ In64 x.1.temps ∧ PrV w x.2.1 x.1.lits ∧ ByV w x.2.2 x.1.code := h.ms (fun _ => False) w (Cg.refl _ _) (fun _ e => e.elim) k x hx
/-- a method of it, by value -/
theorem UnT.me {s : Nat} {w : World} {v : Value} {U : UnitA} {g cap : Nat} {M : List (MethA × Value × Value)} (h : UnT s w v U g cap M) {k : Nat} {x : MethA × Value × Value} (hx : M[k]? = some x) : MeV w (.agg #[.int .i64 x.1.args, .int .i64 x.1.temps, x.2.1, x.2.2]) x.1 := by
  obtain ⟨_, _, _, _, i1, i2, hl, hc⟩ := h.m hx
  obtain ⟨la, lc, e1, _⟩ := hl.form
  obtain ⟨ca, cc, e2, _⟩ := hc.form
  rw [e1] at hl ⊢
  rw [e2] at hc ⊢
  exact MeV.of hl hc i1 i2
theorem UnT.ml {s : Nat} {w : World} {v : Value} {U : UnitA} {g cap : Nat} {M : List (MethA × Value × Value)} (h : UnT s w v U g cap M) : M.length = 9 ∧ U.methods.length = 9 := by
  have := h.ta.ml
  rw [← h.mm] at this
  exact ⟨by simpa using this, h.ta.ml⟩
/-- how long a tape's method may be -/
theorem meth_len {c : Int} {j : Nat} {x : MethA} (h : methOk c j x) : x.code.length ≤ 300 ∧ x.lits.length ≤ 20 := by
  refine ⟨?_, ?_⟩
  · obtain ⟨I, ⟨⟨P, S, q, r, l, hI, h1, h5, hP, hS, _⟩⟩, e⟩ := h.code
    have hfl := flatten_len P hP
    rw [e, flat_len, hI]
    have hSl : S.length ≤ 2 := by
      rcases hS with rfl | rfl <;> simp
    simp only [List.length_append, List.length_cons, List.length_nil]
    omega
  · obtain ⟨A, B, hX, hA, hB, _⟩ := h.lits
    rw [hX]
    simp only [List.length_append, List.length_cons, List.length_nil, hA, hB]
    have : (sels 6).length = 6 := by decide
    omega
set_option maxHeartbeats 4000000 in
theorem unit_t {w : World} {p n : Nat} {ad : Option Addr} (h : Tp w p ad n) :
    Calls Tryd.prog 8 #[.pointer (some ⟨p, 0, none⟩)] w fun e w' => ∃ v U g cap M, e = .returned v ∧ UnT (w.heap.size + 1) w' v U g cap M ∧ Cg (fun k => k = p) w w' := by
  refine (unit_c h).mono ?_
  rintro e w' ⟨nv, cv, mv, ov, rfl, U, hU, hT, _, hcg, M, hM, hF⟩
  obtain ⟨_, g, cap, e, _⟩ := hF (fun _ => False) w' (Cg.refl _ _) (fun _ e => e.elim)
  subst e
  refine ⟨_, U, g, cap, M, rfl, ⟨?_, fun G w2 hG hl => (hF G w2 hG hl).1.k hT.main, hM, fun G w2 hG hl k x hx => ?_, hT⟩, hcg⟩
  · obtain ⟨na, nc, rfl, _⟩ := hU.n.ex
    obtain ⟨ca, cc, rfl, _⟩ := hU.c.ex
    obtain ⟨oa, oc, rfl, _⟩ := hU.o.ex
    exact ⟨na, nc, ca, cc, oa, oc, by rw [hT.main]⟩
  · obtain ⟨_, g', cap', e', hcl⟩ := hF G w2 hG hl
    cases e'
    exact hcl k x hx
end Wd
end Go.Proofs.YtkodnioheifalaaDoor

/- What came in, as the form reads it, opened: integers, instructions, a method. -/
namespace Go.Proofs.YtkodnioheifalaaDoor
open Go.ChangeShapes Go.WideShapes Go.ChangeAt Go.RowKit
set_option linter.unusedVariables false
set_option maxRecDepth 100000
namespace Wd
theorem laidOut : laidOutB Tryd.prog = true := by kernel_rfl
theorem cellsI9 : Tryd.prog.cellsOf 3 = 1 := by kernel_rfl
variable {H : Type} {enc : TypeId × Value → H} {W : World}
theorem nums_raw {n : Nat} {c : Value} {y : DataW H × List MemPlace} (h : DataW.trod enc Tryd.prog W 0 (fun _ => true) true n 29 [c] = some y) : ∃ ad len cap, c = .slice ad len cap ∧ NumA W ad len := by
  rcases DataW.trod_slice Tryd.underlying29 h with ⟨hcs, hx⟩ | ⟨a, len, cap, elems, rest, m, _, hcs, hx, hb, hl, hm, hlen, hel, _, _⟩
  · simp at hcs
    exact ⟨none, 0, 0, hcs, fun k hk => absurd hk (by omega)⟩
  · simp at hcs
    have hsp : 0 < len → a.spot = none := fun h0 => by
      obtain ⟨z, hz⟩ : ∃ z, elems[0]? = some z := ⟨elems[0]'(by omega), by simp⟩
      have hk1 := hel 0 h0
      rw [hz, cellsI9, Option.bind_eq_some_iff] at hk1
      obtain ⟨cs, hc, ht⟩ := hk1
      obtain ⟨_, hcl, hcc⟩ := World.cells?_some hc
      obtain ⟨x, e0, _, w0⟩ := DataW.trod_int Tryd.underlying3 ht
      subst e0
      have hs := World.cell?_spot ((hcc 0 (by omega)).trans (show [Value.int IntKind.i64 x][0]? = some (.int .i64 x) from rfl))
      simpa [Addr.add] using hs
    refine ⟨some a, len, cap, hcs, fun k hk => ?_⟩
    obtain ⟨z, hz⟩ : ∃ z, elems[k]? = some z := ⟨elems[k]'(by omega), by simp⟩
    have hk1 := hel k hk
    rw [hz, cellsI9, Option.bind_eq_some_iff] at hk1
    obtain ⟨cs, hc, ht⟩ := hk1
    obtain ⟨_, hcl, hcc⟩ := World.cells?_some hc
    obtain ⟨x, e0, _, w0⟩ := DataW.trod_int Tryd.underlying3 ht
    subst e0
    have h0 := hcc 0 (by omega)
    obtain ⟨b, off, spot⟩ := a
    have hspot : spot = none := hsp (by omega)
    subst hspot
    simp only [Addr.add_lit, Nat.add_zero, Nat.mul_one] at h0
    exact ⟨b, off, x, rfl, bounds_i64 w0, h0⟩
theorem bytesI9 : Tryd.prog.bytesOf 3 = 8 := by kernel_rfl
theorem nums_of {base : Nat} {v : Value} {d : DataW H} {p : List MemPlace} (hv : Value.okWide Tryd.prog W .any base 29 v) (h : DataW.Trod enc Tryd.prog W 0 (fun _ => true) true 29 v d p) : ∃ ad len cap, v = .slice ad len cap ∧ NumA W ad len ∧ ((d = .nil ∧ len = 0) ∨ ∃ elems spare, d = .slice elems spare ∧ len ≤ elems.length) := by
  obtain ⟨a0, len, cap, rfl⟩ := okWide_slice Tryd.underlying29 hv
  obtain ⟨fuel, hf⟩ := h
  obtain ⟨ad, len', cap', e, hN⟩ := nums_raw (c := .slice a0 len cap) (by simpa [Value.cells] using hf)
  cases e
  refine ⟨_, _, _, rfl, hN, ?_⟩
  rcases DataW.trod_slice Tryd.underlying29 hf with ⟨hcs, hx⟩ | ⟨a, len', cap', elems, rest, n, _, hcs, hx, hb, hl, hm, hlen, hel, _, _⟩
  · simp [Value.cells] at hcs
    obtain ⟨rfl, rfl, rfl⟩ := hcs
    simp only [Prod.mk.injEq] at hx
    exact Or.inl ⟨hx.1, rfl⟩
  · simp [Value.cells] at hcs
    obtain ⟨rfl, rfl, rfl⟩ := hcs
    simp only [Prod.mk.injEq] at hx
    exact Or.inr ⟨_, _, hx.1, by simp; omega⟩
end Wd
end Go.Proofs.YtkodnioheifalaaDoor

/- Methods as text, plainly: numbers in decimal digits, lines, a whole method's text; what is read of a text. -/
namespace Go.Proofs.YtkodnioheifalaaDoor
set_option linter.unusedVariables false
set_option maxRecDepth 20000
namespace Wd
abbrev Bs := List UInt8
/-- decimal digits, at most f of them -/
def dgF : Nat → Nat → Bs
  | 0, _ => []
  | f + 1, n => if n = 0 then [] else dgF f (n / 10) ++ [UInt8.ofNat (48 + n % 10)]
def valD (l : Bs) : Nat := l.foldl (fun a c => a * 10 + (c.toNat - 48)) 0
theorem valD_app (l : Bs) (c : UInt8) : valD (l ++ [c]) = valD l * 10 + (c.toNat - 48) := by
  unfold valD; rw [List.foldl_append]; rfl
theorem dg_nat (n : Nat) : (UInt8.ofNat (48 + n % 10)).toNat = 48 + n % 10 := by
  rw [UInt8.toNat_ofNat']; omega
theorem valD_dg : ∀ (f n : Nat), n < 10 ^ f → valD (dgF f n) = n
  | 0, n, h => by
    have : n = 0 := by simpa using h
    subst this; rfl
  | f + 1, n, h => by
    unfold dgF
    by_cases h0 : n = 0
    · rw [if_pos h0, h0]; rfl
    · rw [if_neg h0, valD_app, valD_dg f (n / 10) (by rw [Nat.pow_succ] at h; omega), dg_nat]; omega
theorem dg_nil : ∀ (f n : Nat), n ≠ 0 → dgF (f + 1) n ≠ [] := by
  intro f n h; unfold dgF; rw [if_neg h]; simp
theorem dg_dig : ∀ (f n : Nat), ∀ c ∈ dgF f n, 48 ≤ c.toNat ∧ c.toNat ≤ 57
  | 0, _, c, h => by simp [dgF] at h
  | f + 1, n, c, h => by
    unfold dgF at h
    split at h
    · simp at h
    · rcases List.mem_append.1 h with h | h
      · exact dg_dig f _ c h
      · rw [List.mem_singleton.1 h, dg_nat]; omega
theorem dg_len : ∀ (f n : Nat), (dgF f n).length ≤ f
  | 0, _ => by simp [dgF]
  | f + 1, n => by
    unfold dgF; split
    · simp
    · have := dg_len f (n / 10)
      rw [List.length_append]; simp only [List.length_cons, List.length_nil]; omega
/-- the first digit is none that is 0 -/
theorem dg_head : ∀ (f n : Nat), n < 10 ^ f → ∀ c r, dgF f n = c :: r → c.toNat ≠ 48
  | 0, _, _, c, r, e => by simp [dgF] at e
  | f + 1, n, h, c, r, e => by
    unfold dgF at e
    by_cases h0 : n = 0
    · rw [if_pos h0] at e; cases e
    · rw [if_neg h0] at e
      rw [Nat.pow_succ] at h
      cases hd : dgF f (n / 10) with
      | nil =>
        rw [hd] at e
        simp only [List.nil_append, List.cons.injEq] at e
        obtain ⟨rfl, rfl⟩ := e
        have h1 : valD (dgF f (n / 10)) = n / 10 := valD_dg f _ (by omega)
        rw [hd] at h1
        have h2 : n / 10 = 0 := h1.symm
        rw [dg_nat]; omega
      | cons x y =>
        rw [hd] at e
        simp only [List.cons_append, List.cons.injEq] at e
        obtain ⟨rfl, _⟩ := e
        exact dg_head f (n / 10) (by omega) x y hd
/-- digits that begin with none that is 0 are those of what they say -/
theorem dg_valD : ∀ (f : Nat) (l : Bs), (∀ c ∈ l, 48 ≤ c.toNat ∧ c.toNat ≤ 57) → (∀ c r, l = c :: r → c.toNat ≠ 48) → l.length ≤ f → dgF f (valD l) = l := by
  intro f
  induction f with
  | zero => intro l _ _ hl; cases l with
    | nil => rfl
    | cons a b => simp at hl
  | succ f ih =>
    intro l hd hh hl
    rcases List.eq_nil_or_concat l with rfl | ⟨r, c, rfl⟩
    · unfold dgF; rw [if_pos (by rfl)]
    · simp only [List.concat_eq_append] at *
      have hc := hd c (by simp)
      have hr : dgF f (valD r) = r := ih r (fun x hx => hd x (by simp [hx])) (fun x y e => hh x (y ++ [c]) (by rw [e]; rfl)) (by simp at hl; omega)
      have hn : valD r * 10 + (c.toNat - 48) ≠ 0 := by
        intro e
        have h1 : c.toNat = 48 := by omega
        have h2 : valD r = 0 := by omega
        cases r with
        | nil => exact hh c [] rfl h1
        | cons x y =>
          have h3 : dgF f 0 = x :: y := by rw [← h2]; exact hr
          cases f with
          | zero => simp [dgF] at h3
          | succ f => simp [dgF] at h3
      unfold dgF
      rw [valD_app, if_neg hn]
      have e1 : (valD r * 10 + (c.toNat - 48)) / 10 = valD r := by omega
      have e2 : 48 + (valD r * 10 + (c.toNat - 48)) % 10 = c.toNat := by omega
      rw [e1, hr, e2, UInt8.ofNat_toNat]
/-- a number as text -/
def numB (n : Int) : Bs := if n = 0 then [48] else if n < 0 then 45 :: dgF 20 n.natAbs else dgF 20 n.natAbs
/-- which number it can be alone -/
def cand (l : Bs) : Int := match l with
  | 45 :: r => -(valD r : Int)
  | _ => (valD l : Int)
theorem cand_numB {n : Int} (h : n.natAbs < 10 ^ 20) : cand (numB n) = n := by
  unfold numB
  by_cases h0 : n = 0
  · rw [if_pos h0, h0]; rfl
  · rw [if_neg h0]
    by_cases h1 : n < 0
    · rw [if_pos h1]
      show -(valD (dgF 20 n.natAbs) : Int) = n
      rw [valD_dg 20 _ h]; omega
    · rw [if_neg h1]
      have hv := valD_dg 20 _ h
      cases hd : dgF 20 n.natAbs with
      | nil => exact absurd hd (dg_nil 19 _ (by omega))
      | cons c r =>
        rw [hd] at hv
        have hc := dg_dig 20 n.natAbs c (by rw [hd]; simp)
        have : cand (c :: r) = (valD (c :: r) : Int) := by
          unfold cand
          split
          · next r' e =>
            simp only [List.cons.injEq] at e
            rw [e.1] at hc
            have : (45 : UInt8).toNat = 45 := rfl
            omega
          · rfl
        rw [this, hv]; omega
/-- neither a blank nor a line's end -/
theorem numB_chr {n : Int} : ∀ c ∈ numB n, c.toNat = 45 ∨ (48 ≤ c.toNat ∧ c.toNat ≤ 57) := by
  intro c h
  unfold numB at h
  split at h
  · rw [List.mem_singleton.1 h]; right; decide
  · split at h
    · rcases List.mem_cons.1 h with rfl | h
      · left; rfl
      · exact .inr (dg_dig _ _ c h)
    · exact .inr (dg_dig _ _ c h)
theorem numB_nil {n : Int} : numB n ≠ [] := by
  unfold numB
  split
  · simp
  · split
    · simp
    · exact dg_nil 19 _ (by omega)
theorem numB_len (n : Int) : (numB n).length ≤ 21 := by
  unfold numB
  have := dg_len 20 n.natAbs
  split
  · simp
  · split
    · simp only [List.length_cons]; omega
    · omega
/-- what is ahead of the first blank, what is behind it -/
def cut1 (x : UInt8) : Bs → Bs × Bs
  | [] => ([], [])
  | c :: r => if c = x then ([], r) else (c :: (cut1 x r).1, (cut1 x r).2)
theorem cut1_app (x : UInt8) : ∀ (l r : Bs), x ∉ l → cut1 x (l ++ x :: r) = (l, r)
  | [], r, _ => by simp [cut1]
  | c :: l, r, h => by
    have h1 : c ≠ x := fun e => h (by simp [e])
    have h2 := cut1_app x l r (fun e => h (by simp [e]))
    simp [cut1, h1, h2]
theorem numB_no {n : Int} {x : UInt8} (h : x.toNat < 45) : x ∉ numB n := fun hm => by
  have := numB_chr x hm; omega
def tMethod : Bs := [109, 101, 116, 104, 111, 100, 32]
def tLit : Bs := [108, 105, 116, 32]
def tByte : Bs := [98, 121, 116, 101, 32]
def knd (k : Int) : Bs := if k = 3 then [110, 117, 109] else if k = 5 then [115, 101, 108] else if k = 6 then [99, 108, 115] else if k = 7 then [98, 108, 107] else []
def litB (v : Int × Int) : Bs := if knd v.1 = [] then [] else knd v.1 ++ 32 :: numB v.2
def opL : List Bs := [[112, 117, 115, 104, 116, 101, 109, 112], [112, 117, 115, 104, 102, 105, 101, 108, 100], [112, 117, 115, 104, 108, 105, 116], [112, 117, 115, 104, 115, 101, 108, 102], [112, 117, 115, 104, 110, 105, 108], [112, 117, 115, 104, 116, 114, 117, 101], [112, 117, 115, 104, 102, 97, 108, 115, 101], [112, 117, 115, 104, 110, 117, 109], [112, 111, 112], [100, 117, 112], [115, 116, 111, 114, 101, 116, 101, 109, 112], [115, 116, 111, 114, 101, 102, 105, 101, 108, 100], [115, 101, 110, 100], [115, 117, 112, 101, 114], [114, 101, 116, 117, 114, 110], [106, 117, 109, 112], [98, 97, 99, 107], [105, 102, 102, 97, 108, 115, 101], [98, 108, 111, 99, 107], [104, 111, 109, 101], [110, 101, 119], [112, 114, 105, 109]]
def opB (op : Int) : Bs := if 0 ≤ op ∧ op ≤ 21 then opL.getD op.toNat [] else 111 :: 112 :: numB op
def sgn (op a : Int) : Int := if op = 7 ∧ 128 ≤ a then a - 256 else a
def hdL (a t : Int) : Bs := tMethod ++ numB a ++ 32 :: numB t
def liL (v : Int × Int) : Bs := tLit ++ litB v
def ixL (op a : Int) : Bs := 32 :: 32 :: opB op ++ 32 :: numB (sgn op a)
def byL (b : Int) : Bs := tByte ++ numB b
def insL : List Int → List Bs
  | [] => []
  | [b] => [byL b]
  | o :: a :: r => ixL o a :: insL r
def lineR (a t : Int) (L : List (Int × Int)) (C : List Int) : List Bs := hdL a t :: (L.map liL ++ insL C)
def joinL (ls : List Bs) : Bs := (ls.map (· ++ [10])).flatten
def printR (a t : Int) (L : List (Int × Int)) (C : List Int) : Bs := joinL (lineR a t L C)
/-- do a literal's numbers go in? -/
def goV (v : Int × Int) : Bool := !(knd v.1).isEmpty && decide (-1073741824 ≤ v.2) && decide (v.2 ≤ 1073741823)
def goM (a t : Int) (L : List (Int × Int)) : Bool := decide (0 ≤ a) && decide (a ≤ 255) && decide (0 ≤ t) && decide (t ≤ 255) && L.all goV
def by8 (b : Int) : Bool := decide (0 ≤ b) && decide (b ≤ 255)
/-- a line as what it says -/
def hdR (l : Bs) : Option (Int × Int) :=
  let p := cut1 32 (l.drop 7); let a := cand p.1; let t := cand p.2
  if by8 a && by8 t && decide (hdL a t = l) then some (a, t) else none
def kinds : List Int := [3, 5, 6, 7]
def valR (l : Bs) : Option (Int × Int) := kinds.findSome? fun k =>
  let n := cand (l.drop 4)
  if goV (k, n) && decide (litB (k, n) = l) then some (k, n) else none
def liR (l : Bs) : Option (Int × Int) := if decide (tLit = l.take 4) then valR (l.drop 4) else none
def opR (l : Bs) : Int := match opL.findIdx? (fun x => decide (x = l)) with
  | some k => (k : Int)
  | none => cand (l.drop 2)
def ixR (l : Bs) : Option (Int × Int) :=
  let p := cut1 32 (l.drop 2); let o := opR p.1; let n := cand p.2; let a := if n < 0 then n + 256 else n
  if by8 o && by8 a && decide (ixL o a = l) then some (o, a) else none
def byR (l : Bs) : Option Int :=
  let b := cand (l.drop 5)
  if by8 b && decide (byL b = l) then some b else none
theorem by8_iff {b : Int} : by8 b = true ↔ 0 ≤ b ∧ b ≤ 255 := by simp [by8]
theorem n256 {b : Int} (h : 0 ≤ b ∧ b ≤ 255) : b.natAbs < 10 ^ 20 := by
  have : (10 : Nat) ^ 20 = 100000000000000000000 := by decide
  omega
theorem n30 {b : Int} (h : -1073741824 ≤ b ∧ b ≤ 1073741823) : b.natAbs < 10 ^ 20 := by
  have : (10 : Nat) ^ 20 = 100000000000000000000 := by decide
  omega
theorem hdR_iff {l : Bs} {a t : Int} : hdR l = some (a, t) ↔ (0 ≤ a ∧ a ≤ 255) ∧ (0 ≤ t ∧ t ≤ 255) ∧ l = hdL a t := by
  constructor
  · intro h
    unfold hdR at h
    simp only at h
    split at h
    · next hc =>
      simp only [Bool.and_eq_true, by8_iff, decide_eq_true_eq] at hc
      simp only [Option.some.injEq, Prod.mk.injEq] at h
      obtain ⟨rfl, rfl⟩ := h
      exact ⟨hc.1.1, hc.1.2, hc.2.symm⟩
    · cases h
  · rintro ⟨ha, ht, rfl⟩
    have e : (hdL a t).drop 7 = numB a ++ 32 :: numB t := rfl
    unfold hdR
    simp only [e, cut1_app 32 _ _ (numB_no (n := a) (x := 32) (by decide)), cand_numB (n256 ha), cand_numB (n256 ht)]
    rw [if_pos (by simp only [Bool.and_eq_true, by8_iff, decide_eq_true_eq]; exact ⟨⟨ha, ht⟩, trivial⟩)]
theorem goV_iff {v : Int × Int} : goV v = true ↔ knd v.1 ≠ [] ∧ -1073741824 ≤ v.2 ∧ v.2 ≤ 1073741823 := by
  simp only [goV, Bool.and_eq_true, Bool.not_eq_true', List.isEmpty_eq_false_iff, decide_eq_true_eq, ne_eq]
  exact ⟨fun h => ⟨h.1.1, h.1.2, h.2⟩, fun h => ⟨⟨h.1, h.2.1⟩, h.2.2⟩⟩
theorem knd_some {k : Int} (h : knd k ≠ []) : k = 3 ∨ k = 5 ∨ k = 6 ∨ k = 7 := by
  unfold knd at h
  split at h
  · left; assumption
  · split at h
    · right; left; assumption
    · split at h
      · right; right; left; assumption
      · split at h
        · right; right; right; assumption
        · exact absurd rfl h
theorem litB_drop {k n : Int} (h : k = 3 ∨ k = 5 ∨ k = 6 ∨ k = 7) : (litB (k, n)).drop 4 = numB n := by
  rcases h with rfl | rfl | rfl | rfl <;> rfl
theorem valR_iff {l : Bs} {v : Int × Int} : valR l = some v ↔ goV v = true ∧ l = litB v := by
  constructor
  · intro h
    unfold valR at h
    obtain ⟨k, hk, h⟩ := List.exists_of_findSome?_eq_some h
    simp only at h
    split at h
    · next hc =>
      simp only [Bool.and_eq_true, decide_eq_true_eq] at hc
      cases h
      exact ⟨hc.1, hc.2.symm⟩
    · cases h
  · rintro ⟨hg, rfl⟩
    obtain ⟨k, n⟩ := v
    have hg' := goV_iff.1 hg
    have hk := knd_some hg'.1
    have hn := n30 hg'.2
    have hd := litB_drop (n := n) hk
    unfold valR kinds
    simp only [hd, cand_numB hn]
    simp only [List.findSome?_cons, List.findSome?_nil]
    have g3 : ∀ k', (k' = 3 ∨ k' = 5 ∨ k' = 6 ∨ k' = 7) → goV (k', n) = true := fun k' h' => goV_iff.2 ⟨by rcases h' with rfl | rfl | rfl | rfl <;> simp [knd], hg'.2⟩
    rw [g3 3 (by simp), g3 5 (by simp), g3 6 (by simp), g3 7 (by simp)]
    have ne : ∀ a b : Int, knd a ≠ [] → knd b ≠ [] → knd a ≠ knd b → (knd a).length = 3 → (knd b).length = 3 → litB (a, n) ≠ litB (b, n) := by
      intro a b h1 h2 h3 l1 l2 e
      unfold litB at e
      rw [if_neg h1, if_neg h2] at e
      exact h3 (List.append_inj e (by rw [l1, l2])).1
    rcases hk with rfl | rfl | rfl | rfl
    · simp
    · simp [ne 3 5 (by decide) (by decide) (by decide) (by decide) (by decide)]
    · simp [ne 3 6 (by decide) (by decide) (by decide) (by decide) (by decide), ne 5 6 (by decide) (by decide) (by decide) (by decide) (by decide)]
    · simp [ne 3 7 (by decide) (by decide) (by decide) (by decide) (by decide), ne 5 7 (by decide) (by decide) (by decide) (by decide) (by decide), ne 6 7 (by decide) (by decide) (by decide) (by decide) (by decide)]
theorem liR_iff {l : Bs} {v : Int × Int} : liR l = some v ↔ goV v = true ∧ l = liL v := by
  unfold liR
  by_cases h : tLit = l.take 4
  · rw [if_pos (by simpa using h), valR_iff]
    refine and_congr_right fun _ => ?_
    have e : l = tLit ++ l.drop 4 := by rw [h, List.take_append_drop]
    constructor
    · intro h1; rw [e, h1]; rfl
    · intro h1; rw [h1]; rfl
  · rw [if_neg (by simpa using h)]
    constructor
    · intro h1; cases h1
    · rintro ⟨_, rfl⟩; exact absurd rfl h
theorem opB_no {op : Int} {x : UInt8} (h : x.toNat < 45) : x ∉ opB op := by
  unfold opB
  split
  · next hc =>
    intro hm
    have key : ∀ l ∈ opL, ∀ c ∈ l, 45 ≤ c.toNat := by decide
    rw [List.getD_eq_getElem?_getD] at hm
    cases hq : opL[op.toNat]? with
    | none => rw [hq] at hm; cases hm
    | some q =>
      rw [hq] at hm
      have := key q (List.mem_of_getElem? hq) x hm
      omega
  · intro hm
    simp only [List.mem_cons] at hm
    rcases hm with rfl | rfl | hm
    · exact absurd h (by decide)
    · exact absurd h (by decide)
    · exact numB_no h hm
theorem opR_lt : ∀ k : _root_.Fin 22, opR (opL.getD k.1 []) = (k.1 : Int) := by decide
theorem opR_ge : ∀ k : _root_.Fin 256, 22 ≤ k.1 → opR (111 :: 112 :: numB (k.1 : Int)) = (k.1 : Int) := by decide +kernel
theorem opR_opB {op : Int} (h : 0 ≤ op ∧ op ≤ 255) : opR (opB op) = op := by
  unfold opB
  by_cases hc : 0 ≤ op ∧ op ≤ 21
  · rw [if_pos hc]
    have := opR_lt ⟨op.toNat, by omega⟩
    rw [this]; simp only; omega
  · rw [if_neg hc]
    have := opR_ge ⟨op.toNat, by omega⟩ (by simp only; omega)
    have e : ((op.toNat : Nat) : Int) = op := by omega
    simp only [e] at this
    exact this
theorem ixR_iff {l : Bs} {o a : Int} : ixR l = some (o, a) ↔ (0 ≤ o ∧ o ≤ 255) ∧ (0 ≤ a ∧ a ≤ 255) ∧ l = ixL o a := by
  constructor
  · intro h
    unfold ixR at h
    simp only at h
    generalize (if cand (cut1 32 (l.drop 2)).2 < 0 then cand (cut1 32 (l.drop 2)).2 + 256 else cand (cut1 32 (l.drop 2)).2) = a' at h
    split at h
    · next hc =>
      simp only [Bool.and_eq_true, by8_iff, decide_eq_true_eq] at hc
      simp only [Option.some.injEq, Prod.mk.injEq] at h
      obtain ⟨rfl, rfl⟩ := h
      exact ⟨hc.1.1, hc.1.2, hc.2.symm⟩
    · cases h
  · rintro ⟨ho, ha, rfl⟩
    have e : (ixL o a).drop 2 = opB o ++ 32 :: numB (sgn o a) := rfl
    have hs : -1073741824 ≤ sgn o a ∧ sgn o a ≤ 1073741823 := by unfold sgn; split <;> omega
    have hb : (if sgn o a < 0 then sgn o a + 256 else sgn o a) = a := by
      unfold sgn
      by_cases hq : o = 7 ∧ 128 ≤ a
      · rw [if_pos hq, if_pos (by omega)]; omega
      · rw [if_neg hq, if_neg (by omega)]
    unfold ixR
    simp only [e, cut1_app 32 _ _ (opB_no (op := o) (x := 32) (by decide)), cand_numB (n30 hs), opR_opB ho, hb]
    rw [if_pos (by simp only [Bool.and_eq_true, by8_iff, decide_eq_true_eq]; exact ⟨⟨ho, ha⟩, trivial⟩)]
theorem byR_iff {l : Bs} {b : Int} : byR l = some b ↔ (0 ≤ b ∧ b ≤ 255) ∧ l = byL b := by
  constructor
  · intro h
    unfold byR at h
    simp only at h
    split at h
    · next hc =>
      simp only [Bool.and_eq_true, by8_iff, decide_eq_true_eq] at hc
      simp only [Option.some.injEq] at h
      subst h
      exact ⟨hc.1, hc.2.symm⟩
    · cases h
  · rintro ⟨hb, rfl⟩
    have e : (byL b).drop 5 = numB b := rfl
    unfold byR
    simp only [e, cand_numB (n256 hb)]
    rw [if_pos (by simp only [Bool.and_eq_true, by8_iff, decide_eq_true_eq]; exact ⟨hb, trivial⟩)]
end Wd
end Go.Proofs.YtkodnioheifalaaDoor

/- What a text says as a method: line by line. -/
namespace Go.Proofs.YtkodnioheifalaaDoor
set_option linter.unusedVariables false
set_option maxRecDepth 20000
namespace Wd
/-- lines that are ended, and what is behind the last of them -/
def splitL : Bs → List Bs × Bs
  | [] => ([], [])
  | c :: r =>
    if c = 10 then ([] :: (splitL r).1, (splitL r).2)
    else match (splitL r).1 with
      | [] => ([], c :: (splitL r).2)
      | l :: ls => ((c :: l) :: ls, (splitL r).2)
theorem splitL_line : ∀ (l r : Bs), 10 ∉ l → splitL (l ++ 10 :: r) = (l :: (splitL r).1, (splitL r).2)
  | [], r, _ => by simp [splitL]
  | c :: l, r, h => by
    have h1 : c ≠ 10 := fun e => h (by simp [e])
    have h2 := splitL_line l r (fun e => h (by simp [e]))
    simp [splitL, h1, h2]
theorem splitL_tail : ∀ (l : Bs), 10 ∉ l → splitL l = ([], l)
  | [], _ => rfl
  | c :: l, h => by
    have h1 : c ≠ 10 := fun e => h (by simp [e])
    have h2 := splitL_tail l (fun e => h (by simp [e]))
    simp [splitL, h1, h2]
theorem joinL_cons (l : Bs) (ls : List Bs) : joinL (l :: ls) = l ++ 10 :: joinL ls := by simp [joinL]
theorem joinL_app (A B : List Bs) : joinL (A ++ B) = joinL A ++ joinL B := by simp [joinL]
theorem splitL_join : ∀ (ls : List Bs) (t : Bs), (∀ l ∈ ls, 10 ∉ l) → splitL (joinL ls ++ t) = (ls ++ (splitL t).1, (splitL t).2)
  | [], t, _ => by simp [joinL]
  | l :: ls, t, h => by
    rw [joinL_cons, List.append_assoc, List.cons_append, splitL_line l _ (h l (by simp)), splitL_join ls t (fun x hx => h x (by simp [hx]))]
    rfl
theorem splitL_eq : ∀ s : Bs, joinL (splitL s).1 ++ (splitL s).2 = s
  | [] => rfl
  | c :: r => by
    have ih := splitL_eq r
    unfold splitL
    split
    · next h => subst h; show joinL ([] :: (splitL r).1) ++ (splitL r).2 = _; rw [joinL_cons]; simp [ih]
    · split
      · next h => rw [h] at ih; simp only [joinL, List.map_nil, List.flatten_nil, List.nil_append] at ih ⊢; rw [ih]
      · next l ls h => rw [h, joinL_cons] at ih; show joinL ((c :: l) :: ls) ++ (splitL r).2 = _; rw [joinL_cons]; simp only [List.cons_append, List.append_assoc] at ih ⊢; rw [ih]
structure TS where
  k : Nat
  a : Int
  t : Int
  L : List (Int × Int)
  C : List Int
def tz : TS := ⟨0, 0, 0, [], []⟩
/-- one more line -/
def stepT (S : TS) (l : Bs) : Option TS :=
  if S.k = 0 then (match hdR l with | some p => some ⟨1, p.1, p.2, [], []⟩ | none => none)
  else if S.k = 3 then none
  else match (if S.k = 1 then liR l else none) with
    | some v => some { S with L := S.L ++ [v] }
    | none => match ixR l with
      | some p => some { S with k := 2, C := S.C ++ [p.1, p.2] }
      | none => match byR l with
        | some b => some { S with k := 3, C := S.C ++ [b] }
        | none => none
def eatT : TS → List Bs → TS × Nat
  | S, [] => (S, 0)
  | S, l :: r => match stepT S l with
    | some S' => ((eatT S' r).1, (eatT S' r).2 + 1)
    | none => (S, 0)
def parT (s : Bs) : TS × Nat :=
  if (eatT tz (splitL s).1).2 = (splitL s).1.length ∧ (splitL s).2 = [] ∧ (eatT tz (splitL s).1).1.k ≠ 0 then ((eatT tz (splitL s).1).1, 0) else (tz, (eatT tz (splitL s).1).2 + 1)
theorem eatT_some {S S' : TS} {l : Bs} (r : List Bs) (h : stepT S l = some S') : eatT S (l :: r) = ((eatT S' r).1, (eatT S' r).2 + 1) := by
  rw [eatT, h]
theorem eatT_none {S : TS} {l : Bs} (r : List Bs) (h : stepT S l = none) : eatT S (l :: r) = (S, 0) := by
  rw [eatT, h]
theorem eatT_app : ∀ (A B : List Bs) (S : TS), (eatT S A).2 = A.length → eatT S (A ++ B) = ((eatT (eatT S A).1 B).1, A.length + (eatT (eatT S A).1 B).2)
  | [], B, S, _ => by simp [eatT]
  | l :: r, B, S, h => by
    rw [List.cons_append]
    cases hs : stepT S l with
    | none => rw [eatT_none r hs] at h; cases h
    | some S' =>
      rw [eatT_some r hs] at h
      have h' : (eatT S' r).2 = r.length := Nat.succ.inj h
      rw [eatT_some _ hs, eatT_some _ hs, eatT_app r B S' h', List.length_cons]
      simp only [Nat.add_right_comm]
/-- lines of what was read so far -/
def TS.ls (S : TS) : List Bs := if S.k = 0 then [] else lineR S.a S.t S.L S.C
structure TS.ok (S : TS) : Prop where
  z : S.k = 0 → S = tz
  go : goM S.a S.t S.L = true
  by8 : ∀ c ∈ S.C, 0 ≤ c ∧ c ≤ 255
  k1 : S.k = 1 → S.C = []
  k2 : S.k = 2 → S.C.length % 2 = 0
  k3 : S.k = 3 → S.C.length % 2 = 1
  le : S.k ≤ 3
theorem tz_ok : tz.ok := ⟨fun _ => rfl, by decide, fun c h => (by cases h), fun _ => rfl, fun _ => rfl, fun h => (by cases h), by decide⟩
theorem insL_app : ∀ (A B : List Int), A.length % 2 = 0 → insL (A ++ B) = insL A ++ insL B
  | [], B, _ => rfl
  | [_], B, h => by simp at h
  | o :: a :: r, B, h => by
    have := insL_app r B (by simp only [List.length_cons] at h; omega)
    show ixL o a :: insL (r ++ B) = _
    rw [this]; rfl
theorem goM_iff {a t : Int} {L : List (Int × Int)} : goM a t L = true ↔ (0 ≤ a ∧ a ≤ 255) ∧ (0 ≤ t ∧ t ≤ 255) ∧ ∀ v ∈ L, goV v = true := by
  simp only [goM, Bool.and_eq_true, decide_eq_true_eq, List.all_eq_true]
  exact ⟨fun h => ⟨⟨h.1.1.1.1, h.1.1.1.2⟩, ⟨h.1.1.2, h.1.2⟩, h.2⟩, fun h => ⟨⟨⟨⟨h.1.1, h.1.2⟩, h.2.1.1⟩, h.2.1.2⟩, h.2.2⟩⟩
theorem stepT_ok {S S' : TS} {l : Bs} (h : S.ok) (e : stepT S l = some S') : S'.ok ∧ S'.ls = S.ls ++ [l] ∧ S'.k ≠ 0 := by
  unfold stepT at e
  by_cases h0 : S.k = 0
  · rw [if_pos h0] at e
    cases hp : hdR l with
    | none => rw [hp] at e; cases e
    | some p =>
      obtain ⟨a, t⟩ := p
      rw [hp] at e
      cases e
      obtain ⟨ha, ht, rfl⟩ := hdR_iff.1 hp
      refine ⟨⟨fun e => (by cases e), goM_iff.2 ⟨ha, ht, fun v hv => (by cases hv)⟩, fun c hc => (by cases hc), fun _ => rfl, fun e => (by cases e), fun e => (by cases e), by simp⟩, ?_, by simp⟩
      simp [TS.ls, h0, lineR, insL]
  · rw [if_neg h0] at e
    by_cases h3 : S.k = 3
    · rw [if_pos h3] at e; cases e
    · rw [if_neg h3] at e
      have hle := h.le
      cases hv : (if S.k = 1 then liR l else none) with
      | some v =>
        rw [hv] at e
        cases e
        by_cases h1 : S.k = 1
        · rw [if_pos h1] at hv
          obtain ⟨hg, rfl⟩ := liR_iff.1 hv
          have hC := h.k1 h1
          have hgm := goM_iff.1 h.go
          refine ⟨⟨fun e => absurd e h0, goM_iff.2 ⟨hgm.1, hgm.2.1, fun x hx => ?_⟩, h.by8, h.k1, h.k2, h.k3, h.le⟩, ?_, h0⟩
          · rcases List.mem_append.1 hx with hx | hx
            · exact hgm.2.2 x hx
            · rw [List.mem_singleton.1 hx]; exact hg
          · simp [TS.ls, h0, lineR, hC, insL]
        · rw [if_neg h1] at hv; cases hv
      | none =>
        rw [hv] at e
        have hev : S.C.length % 2 = 0 := by
          by_cases h1 : S.k = 1
          · rw [h.k1 h1]; rfl
          · exact h.k2 (by omega)
        cases hi : ixR l with
        | some p =>
          obtain ⟨o, a⟩ := p
          rw [hi] at e
          cases e
          obtain ⟨ho, ha, rfl⟩ := ixR_iff.1 hi
          refine ⟨⟨fun e => (by cases e), h.go, fun c hc => ?_, fun e => (by cases e), fun _ => ?_, fun e => (by cases e), by simp⟩, ?_, by simp⟩
          · rcases List.mem_append.1 hc with hc | hc
            · exact h.by8 c hc
            · simp only [List.mem_cons, List.not_mem_nil, or_false] at hc
              rcases hc with rfl | rfl
              · exact ho
              · exact ha
          · simp only [List.length_append, List.length_cons, List.length_nil]; omega
          · simp [TS.ls, h0, lineR, insL_app _ _ hev, insL]
        | none =>
          rw [hi] at e
          cases hb : byR l with
          | none => rw [hb] at e; cases e
          | some b =>
            rw [hb] at e
            cases e
            obtain ⟨hb8, rfl⟩ := byR_iff.1 hb
            refine ⟨⟨fun e => (by cases e), h.go, fun c hc => ?_, fun e => (by cases e), fun e => (by cases e), fun _ => ?_, by simp⟩, ?_, by simp⟩
            · rcases List.mem_append.1 hc with hc | hc
              · exact h.by8 c hc
              · rw [List.mem_singleton.1 hc]; exact hb8
            · simp only [List.length_append, List.length_cons, List.length_nil]; omega
            · simp [TS.ls, h0, lineR, insL_app _ _ hev, insL]
theorem eatT_ok : ∀ (ls : List Bs) (S : TS), S.ok → (eatT S ls).2 = ls.length → (eatT S ls).1.ok ∧ (eatT S ls).1.ls = S.ls ++ ls ∧ ((eatT S ls).1.k = 0 → S.k = 0 ∧ ls = [])
  | [], S, h, _ => by simp [eatT, h]
  | l :: r, S, h, e => by
    unfold eatT at e ⊢
    cases hs : stepT S l with
    | none => rw [hs] at e; simp at e
    | some S' =>
      rw [hs] at e
      simp only [List.length_cons, Nat.add_right_cancel_iff] at e
      obtain ⟨h1, h2, h3⟩ := stepT_ok h hs
      obtain ⟨h4, h5, h6⟩ := eatT_ok r S' h1 e
      refine ⟨h4, ?_, fun e => absurd (h6 e).1 h3⟩
      show (eatT S' r).1.ls = _
      rw [h5, h2]; simp
theorem stepT_hd {a t : Int} (ha : 0 ≤ a ∧ a ≤ 255) (ht : 0 ≤ t ∧ t ≤ 255) : stepT tz (hdL a t) = some ⟨1, a, t, [], []⟩ := by
  unfold stepT
  rw [if_pos (show tz.k = 0 from rfl), hdR_iff.2 ⟨ha, ht, rfl⟩]
theorem stepT_li {S : TS} {v : Int × Int} (h : S.k = 1) (hv : goV v = true) : stepT S (liL v) = some { S with L := S.L ++ [v] } := by
  unfold stepT
  rw [if_neg (by omega), if_neg (by omega), if_pos h, liR_iff.2 ⟨hv, rfl⟩]
theorem liR_in {o a : Int} : liR (ixL o a) = none := by
  cases h : liR (ixL o a) with
  | none => rfl
  | some v => have := (liR_iff.1 h).2; simp [ixL, liL, tLit] at this
theorem liR_by {b : Int} : liR (byL b) = none := by
  cases h : liR (byL b) with
  | none => rfl
  | some v => have := (liR_iff.1 h).2; simp [byL, liL, tLit, tByte] at this
theorem ixR_by {b : Int} : ixR (byL b) = none := by
  cases h : ixR (byL b) with
  | none => rfl
  | some v => obtain ⟨o, a⟩ := v; have := (ixR_iff.1 h).2.2; simp [byL, ixL, tByte] at this
theorem stepT_ix {S : TS} {o a : Int} (h : S.k = 1 ∨ S.k = 2) (ho : 0 ≤ o ∧ o ≤ 255) (ha : 0 ≤ a ∧ a ≤ 255) : stepT S (ixL o a) = some { S with k := 2, C := S.C ++ [o, a] } := by
  unfold stepT
  rw [if_neg (by omega), if_neg (by omega), liR_in, ixR_iff.2 ⟨ho, ha, rfl⟩]
  simp
theorem stepT_by {S : TS} {b : Int} (h : S.k = 1 ∨ S.k = 2) (hb : 0 ≤ b ∧ b ≤ 255) : stepT S (byL b) = some { S with k := 3, C := S.C ++ [b] } := by
  unfold stepT
  rw [if_neg (by omega), if_neg (by omega), liR_by, ixR_by, byR_iff.2 ⟨hb, rfl⟩]
  simp
theorem eatT_li : ∀ (L : List (Int × Int)) (S : TS), S.k = 1 → (∀ v ∈ L, goV v = true) → eatT S (L.map liL) = ({ S with L := S.L ++ L }, L.length)
  | [], S, _, _ => by simp [eatT]
  | v :: L, S, h, hv => by
    have h1 := stepT_li (S := S) h (hv v (by simp))
    have h2 := eatT_li L { S with L := S.L ++ [v] } h (fun x hx => hv x (by simp [hx]))
    rw [List.map_cons]
    unfold eatT
    rw [h1]
    simp only [h2, List.length_cons, List.append_assoc, List.cons_append, List.nil_append]
theorem eatT_in : ∀ (C : List Int) (S : TS), (S.k = 1 ∨ S.k = 2) → (∀ c ∈ C, 0 ≤ c ∧ c ≤ 255) → ∃ k, k ≠ 0 ∧ eatT S (insL C) = ({ S with k := k, C := S.C ++ C }, (insL C).length)
  | [], S, h, _ => ⟨S.k, by omega, by simp [insL, eatT]⟩
  | [b], S, h, hc => by
    refine ⟨3, by decide, ?_⟩
    have h1 := stepT_by (S := S) h (hc b (by simp))
    simp only [insL]
    unfold eatT
    rw [h1]
    simp [eatT]
  | o :: a :: r, S, h, hc => by
    have h1 := stepT_ix (S := S) h (hc o (by simp)) (hc a (by simp))
    obtain ⟨k, hk, h2⟩ := eatT_in r { S with k := 2, C := S.C ++ [o, a] } (.inr rfl) (fun x hx => hc x (by simp [hx]))
    refine ⟨k, hk, ?_⟩
    simp only [insL]
    unfold eatT
    rw [h1]
    simp only [h2, List.length_cons, List.append_assoc, List.cons_append, List.nil_append]
theorem eatT_all {a t : Int} {L : List (Int × Int)} {C : List Int} (hg : goM a t L = true) (hc : ∀ c ∈ C, 0 ≤ c ∧ c ≤ 255) : ∃ k, k ≠ 0 ∧ eatT tz (lineR a t L C) = (⟨k, a, t, L, C⟩, (lineR a t L C).length) := by
  obtain ⟨ha, ht, hL⟩ := goM_iff.1 hg
  have h1 := eatT_li L ⟨1, a, t, [], []⟩ rfl hL
  obtain ⟨k, hk, h2⟩ := eatT_in C ⟨1, a, t, L, []⟩ (.inl rfl) hc
  refine ⟨k, hk, ?_⟩
  unfold lineR
  rw [eatT, stepT_hd ha ht]
  simp only
  simp only [List.nil_append] at h1
  rw [eatT_app (L.map liL) (insL C) _ (by rw [h1, List.length_map]), h1, h2]
  simp only [List.nil_append, List.length_cons, List.length_append]
theorem no10 {x : UInt8} (h : x.toNat < 45) (e : x.toNat ≠ 32) : (∀ a t, x ∉ hdL a t) ∧ (∀ v, x ∉ liL v) ∧ (∀ o a, x ∉ ixL o a) ∧ (∀ b, x ∉ byL b) := by
  have n32 : x ≠ 32 := fun e' => e (by rw [e']; rfl)
  have key : ∀ l : Bs, (∀ c ∈ l, 45 ≤ c.toNat ∨ c.toNat = 32) → x ∉ l := fun l hl hm => by have := hl x hm; omega
  refine ⟨fun a t => key _ fun c hc => ?_, fun v => key _ fun c hc => ?_, fun o a => key _ fun c hc => ?_, fun b => key _ fun c hc => ?_⟩
  · simp only [hdL, List.append_assoc, List.mem_append, List.mem_cons] at hc
    rcases hc with hc | hc | rfl | hc
    · exact (by decide : ∀ c ∈ tMethod, 45 ≤ c.toNat ∨ c.toNat = 32) c hc
    · have := numB_chr c hc; omega
    · right; rfl
    · have := numB_chr c hc; omega
  · simp only [liL, List.mem_append] at hc
    rcases hc with hc | hc
    · exact (by decide : ∀ c ∈ tLit, 45 ≤ c.toNat ∨ c.toNat = 32) c hc
    · unfold litB at hc
      split at hc
      · cases hc
      · next hk =>
        rcases List.mem_append.1 hc with hc | hc
        · rcases knd_some hk with h | h | h | h <;> rw [h] at hc
          · exact (by decide : ∀ c ∈ knd 3, 45 ≤ c.toNat ∨ c.toNat = 32) c hc
          · exact (by decide : ∀ c ∈ knd 5, 45 ≤ c.toNat ∨ c.toNat = 32) c hc
          · exact (by decide : ∀ c ∈ knd 6, 45 ≤ c.toNat ∨ c.toNat = 32) c hc
          · exact (by decide : ∀ c ∈ knd 7, 45 ≤ c.toNat ∨ c.toNat = 32) c hc
        · rcases List.mem_cons.1 hc with rfl | hc
          · right; rfl
          · have := numB_chr c hc; omega
  · simp only [ixL, List.cons_append, List.mem_cons, List.mem_append] at hc
    rcases hc with rfl | rfl | hc | rfl | hc
    · right; rfl
    · right; rfl
    · by_cases h45 : c.toNat < 45
      · exact absurd hc (opB_no h45)
      · left; omega
    · right; rfl
    · have := numB_chr c hc; omega
  · simp only [byL, List.mem_append] at hc
    rcases hc with hc | hc
    · exact (by decide : ∀ c ∈ tByte, 45 ≤ c.toNat ∨ c.toNat = 32) c hc
    · have := numB_chr c hc; omega
theorem insL_mem : ∀ (C : List Int) (l : Bs), l ∈ insL C → (∃ o a, l = ixL o a) ∨ ∃ b, l = byL b
  | [], l, h => by cases h
  | [b], l, h => .inr ⟨b, by simpa [insL] using h⟩
  | o :: a :: r, l, h => by
    rcases List.mem_cons.1 h with rfl | h
    · exact .inl ⟨o, a, rfl⟩
    · exact insL_mem r l h
theorem lineR_no {a t : Int} {L : List (Int × Int)} {C : List Int} : ∀ l ∈ lineR a t L C, 10 ∉ l := by
  obtain ⟨h1, h2, h3, h4⟩ := no10 (x := 10) (by decide) (by decide)
  intro l hl
  unfold lineR at hl
  rcases List.mem_cons.1 hl with rfl | hl
  · exact h1 a t
  · rcases List.mem_append.1 hl with hl | hl
    · obtain ⟨v, _, rfl⟩ := List.mem_map.1 hl
      exact h2 v
    · rcases insL_mem C l hl with ⟨o, a, rfl⟩ | ⟨b, rfl⟩
      · exact h3 o a
      · exact h4 b
/-- what was written is read -/
theorem parT_print {a t : Int} {L : List (Int × Int)} {C : List Int} (hg : goM a t L = true) (hc : ∀ c ∈ C, 0 ≤ c ∧ c ≤ 255) : ∃ k, parT (printR a t L C) = (⟨k, a, t, L, C⟩, 0) := by
  obtain ⟨k, hk, h⟩ := eatT_all (C := C) hg hc
  refine ⟨k, ?_⟩
  have hs : splitL (printR a t L C) = (lineR a t L C, []) := by
    have := splitL_join (lineR a t L C) [] lineR_no
    rw [List.append_nil] at this
    simpa [splitL, printR] using this
  unfold parT
  rw [hs]
  show (if (eatT tz (lineR a t L C)).2 = (lineR a t L C).length ∧ ([] : Bs) = [] ∧ (eatT tz (lineR a t L C)).1.k ≠ 0 then ((eatT tz (lineR a t L C)).1, 0) else (tz, (eatT tz (lineR a t L C)).2 + 1)) = _
  rw [h]
  exact if_pos ⟨rfl, rfl, hk⟩
/-- what is read was written so -/
theorem parT_sound {s : Bs} {S : TS} (h : parT s = (S, 0)) : goM S.a S.t S.L = true ∧ (∀ c ∈ S.C, 0 ≤ c ∧ c ≤ 255) ∧ printR S.a S.t S.L S.C = s := by
  unfold parT at h
  split at h
  · next hc =>
    obtain ⟨h1, h2, h3⟩ := hc
    obtain ⟨h4, h5, _⟩ := eatT_ok _ tz tz_ok h1
    injection h with h _
    rw [h] at h3 h4 h5
    refine ⟨h4.go, h4.by8, ?_⟩
    have e : S.ls = lineR S.a S.t S.L S.C := if_neg h3
    have e0 : tz.ls = [] := rfl
    rw [e, e0, List.nil_append] at h5
    have := splitL_eq s
    rw [h2, List.append_nil, ← h5] at this
    exact this
  · injection h with _ h; cases h
theorem parT_bad {s : Bs} {S : TS} {n : Nat} (h : parT s = (S, n)) (hn : n ≠ 0) : S = tz := by
  unfold parT at h
  split at h
  · injection h with _ h; exact absurd h.symm hn
  · injection h with h _; exact h.symm
end Wd
end Go.Proofs.YtkodnioheifalaaDoor

/- What laws ask of texts: a literal with a blank more, a text in two parts, a byte turned. -/
namespace Go.Proofs.YtkodnioheifalaaDoor
set_option linter.unusedVariables false
set_option maxRecDepth 20000
namespace Wd
theorem knd_no {k : Int} : (32 : UInt8) ∉ knd k := by
  unfold knd
  split
  · decide
  · split
    · decide
    · split
      · decide
      · split <;> decide
theorem cut_lit {v : Int × Int} (h : knd v.1 ≠ []) (r : Bs) : cut1 32 (litB v ++ r) = (knd v.1, numB v.2 ++ r) := by
  unfold litB
  rw [if_neg h, List.append_assoc, List.cons_append]
  exact cut1_app 32 _ _ knd_no
theorem valR_more {v : Int × Int} (h : goV v = true) : valR (litB v ++ [32]) = none := by
  cases hv : valR (litB v ++ [32]) with
  | none => rfl
  | some w =>
    obtain ⟨hw, e⟩ := valR_iff.1 hv
    have h1 := cut_lit (goV_iff.1 h).1 [32]
    have h2 := cut_lit (goV_iff.1 hw).1 []
    rw [e, ← List.append_nil (litB w), h2] at h1
    injection h1 with _ h1
    rw [List.append_nil] at h1
    have : (32 : UInt8) ∈ numB w.2 := by rw [h1]; simp
    exact absurd this (numB_no (by decide))
theorem valR_ahead (l : Bs) : valR (32 :: l) = none := by
  cases hv : valR (32 :: l) with
  | none => rfl
  | some w =>
    obtain ⟨hw, e⟩ := valR_iff.1 hv
    have hk := (goV_iff.1 hw).1
    unfold litB at e
    rw [if_neg hk] at e
    rcases knd_some hk with h | h | h | h <;> rw [h] at e <;> simp [knd] at e
theorem litB_ne {v : Int × Int} (h : goV v = true) : litB v ≠ [] := by
  unfold litB
  rw [if_neg (goV_iff.1 h).1]; simp
theorem joinL_one (l : Bs) : joinL [l] = l ++ [10] := by simp [joinL]
/-- a method in two parts -/
theorem print_parts (a t : Int) (L : List (Int × Int)) (C : List Int) (k : Nat) (hk : k ≤ C.length) (he : k % 2 = 0) :
    printR 0 0 [] (C.drop k) = printR 0 0 [] [] ++ joinL (insL (C.drop k)) ∧ printR a t L (C.take k) ++ joinL (insL (C.drop k)) = printR a t L C := by
  have e1 : ∀ (a t : Int) (L : List (Int × Int)) (C : List Int), printR a t L C = joinL (hdL a t :: L.map liL) ++ joinL (insL C) := by
    intro a t L C
    unfold printR lineR
    rw [← List.cons_append, joinL_app]
  refine ⟨?_, ?_⟩
  · rw [e1, e1 0 0 [] []]
    simp [insL, joinL]
  · rw [e1, e1 a t L C]
    have h := insL_app (C.take k) (C.drop k) (by rw [List.length_take]; omega)
    rw [List.take_append_drop] at h
    rw [h, joinL_app, List.append_assoc]
theorem printR_nil {a t : Int} {L : List (Int × Int)} {C : List Int} : printR a t L C ≠ [] := by
  unfold printR lineR
  rw [joinL_cons]; simp
/-- a byte turned -/
theorem set_same {s : Bs} {k : Nat} {b c : UInt8} (hk : s[k]? = some c) : s.set k b = s ↔ b = c := by
  constructor
  · intro h
    have hl := (List.getElem?_eq_some_iff.1 hk).1
    have h1 : (s.set k b)[k]? = some b := List.getElem?_set_self hl
    rw [h, hk] at h1
    exact (Option.some.inj h1).symm
  · rintro rfl
    obtain ⟨hl, rfl⟩ := List.getElem?_eq_some_iff.1 hk
    exact List.set_getElem_self hl
/-- with a byte turned a text says another method, or none -/
theorem par_turned {a t : Int} {L : List (Int × Int)} {C : List Int} (hg : goM a t L = true) (hc : ∀ c ∈ C, 0 ≤ c ∧ c ≤ 255) {k : Nat} {b c : UInt8} (hk : (printR a t L C)[k]? = some c) {S : TS} {n : Nat} (h : parT ((printR a t L C).set k b) = (S, n)) :
    (n = 0 → printR S.a S.t S.L S.C = (printR a t L C).set k b ∧ ((S.a = a ∧ S.t = t ∧ S.L = L ∧ S.C = C) ↔ b = c)) ∧ (n ≠ 0 → b ≠ c ∧ S = tz) := by
  refine ⟨?_, ?_⟩
  · rintro rfl
    obtain ⟨h1, h2, h3⟩ := parT_sound h
    refine ⟨h3, ?_, ?_⟩
    · rintro ⟨e1, e2, e3, e4⟩
      rw [e1, e2, e3, e4] at h3
      exact (set_same hk).1 h3.symm
    · intro e
      rw [(set_same hk).2 e] at h
      obtain ⟨k', h4⟩ := parT_print hg hc
      rw [h] at h4
      injection h4 with h4 _
      rw [h4]
      exact ⟨rfl, rfl, rfl, rfl⟩
  · intro hn
    refine ⟨fun e => ?_, parT_bad h hn⟩
    rw [(set_same hk).2 e] at h
    obtain ⟨k', h4⟩ := parT_print hg hc
    rw [h] at h4
    injection h4 with _ h4
    exact hn h4
end Wd
end Go.Proofs.YtkodnioheifalaaDoor

/- Classes, plainly: chains, what is right. -/
namespace Go.Proofs.YtkodnioheifalaaDoor
open Go.RowKit
set_option linter.unusedVariables false
set_option maxRecDepth 20000
namespace Wd
theorem ba_beq (a b : ByteArray) : (a == b) = decide (a = b) := by
  obtain ⟨⟨x⟩⟩ := a
  obtain ⟨⟨y⟩⟩ := b
  show ((⟨x⟩ : Array UInt8) == ⟨y⟩) = _
  simp only [ByteArray.mk.injEq, Array.mk.injEq]
  by_cases h : x = y
  · simp [h]
  · simp [h]
theorem ba_ne {a b : ByteArray} (h : ¬ a = b) : (a == b) = false := by rw [ba_beq]; simp [h]
theorem ba_eq {a b : ByteArray} (h : a = b) : (a == b) = true := by rw [ba_beq]; simp [h]
theorem bl_ne {a b : ByteArray} (h : ¬ a = b) : (a.toList == b.toList) = false := (beq_toListBytes a b).symm.trans (ba_ne h)
theorem bl_eq {a b : ByteArray} (h : a = b) : (a.toList == b.toList) = true := (beq_toListBytes a b).symm.trans (ba_eq h)
/-- a class, its super, and so on -/
def chainR (L : List ClassA) : Int → Nat → List Int
  | _, 0 => []
  | i, f + 1 => if 0 ≤ i then (match L[i.toNat]? with | some c => i :: chainR L c.super f | none => []) else []
def chain (L : List ClassA) (i : Int) : List Int := chainR L i 8
/-- how many there are, going up, when all supers are lesser -/
def deep (L : List ClassA) : Nat → Int → Nat
  | 0, _ => 0
  | f + 1, i => if 0 ≤ i then (match L[i.toNat]? with | some c => deep L f c.super + 1 | none => 0) else 0
end Wd
end Go.Proofs.YtkodnioheifalaaDoor

/- What the walks of this stage begin with. -/
namespace Go.Proofs.YtkodnioheifalaaDoor
open Go.RowKit
set_option linter.unusedVariables false
set_option maxRecDepth 20000
namespace Wd
theorem take_next {A : Type} {L : List A} {k : Nat} {c : A} (h : L[k]? = some c) : L.take (k + 1) = L.take k ++ [c] := by rw [List.take_add_one, h]; rfl
end Wd
end Go.Proofs.YtkodnioheifalaaDoor

/- Are two rows of pairs alike? (the document's own vals and binds) -/
namespace Go.Proofs.YtkodnioheifalaaDoor
open Go.RowKit
set_option linter.unusedVariables false
set_option maxRecDepth 20000
namespace Wd
/-- k pairs are alike -/
structure EqR {T : Type} (A B : List T) (k : Nat) : Prop where
  mk ::
  eq : A.take k = B.take k
theorem EqR.start {T : Type} (A B : List T) : EqR A B 0 := ⟨by simp⟩
theorem EqR.step {T : Type} {A B : List T} {k : Nat} {x y : T} (h : EqR A B k) (hx : A[k]? = some x) (hy : B[k]? = some y) (e : x = y) : EqR A B (k + 1) := by
  refine ⟨?_⟩
  rw [take_next hx, take_next hy, h.eq, e]
theorem EqR.last {T : Type} [DecidableEq T] {A B : List T} {n : Nat} (h : EqR A B n) (ha : n = A.length) (hb : n = B.length) : decide (A = B) = true := by
  have := h.eq
  rw [ha, List.take_length, ← ha, hb, List.take_length] at this
  exact decide_eq_true this
theorem eq_not {T : Type} [DecidableEq T] {A B : List T} {k : Nat} {x y : T} (hx : A[k]? = some x) (hy : B[k]? = some y) (e : ¬ x = y) : decide (A = B) = false := by
  refine decide_eq_false (fun h => e ?_)
  subst h
  rw [hx] at hy
  exact Option.some.inj hy
theorem eq_len {T : Type} [DecidableEq T] {A B : List T} (e : ¬ A.length = B.length) : decide (A = B) = false := decide_eq_false (fun h => e (by rw [h]))
set_option maxHeartbeats 8000000 in
theorem rvals_c {w : World} {a b : Value} {A B : List (Int × Int)} (ha : PrV w a A) (hb : PrV w b B) :
    Calls Tryd.prog 34 #[a, b] w fun e w' => e = .returned (.bool (decide (A = B))) ∧ Below w.heap.size w w' := by
  obtain ⟨aa, ac, rfl, ha1, ha2⟩ := ha.form
  obtain ⟨ba, bc, rfl, hb1, hb2⟩ := hb.form
  have hle := len_le (Nat.le_trans ha1 ha2)
  by_cases hl : A.length = B.length
  · have hl' : ((A.length : Int) != (B.length : Int)) = false := by simp [hl]
    obtain ⟨n, hn⟩ : ∃ n, n = A.length := ⟨_, rfl⟩
    obtain ⟨m, hm⟩ : ∃ m, m = B.length := ⟨_, rfl⟩
    have hn' := Lib.hid hn
    have hm' := Lib.hid hm
    have hnm := Lib.hid (show n = m by omega)
    rw [← hn] at ha hle hl' ⊢
    rw [← hm] at hb hl' ⊢
    replace ha := Lib.hid ha
    replace hb := Lib.hid hb
    have hst := Lib.hid (EqR.start A B)
    clear hl hn hm ha1 ha2 hb1 hb2
    go_enter Tryd.func34, Tryd.ntmps34
    go_wp2
    go_loopw [13] (fun i wr => ∃ (k : Nat), k ≤ n ∧ i = .int .i64 k ∧ Hid (EqR A B k) ∧ Hid (Below w.heap.size w wr)) (fun i _ => n - (intOf i).toNat)
    case atStart => exact ⟨0, by omega, rfl, hst, Lib.hid (Below.refl _ _)⟩
    case round =>
      obtain ⟨k, hk, rfl, hE, hB⟩ := hrel
      by_cases hlt : k < n
      · have hlt' : decide ((k : Int) < (n : Int)) = true := by simp; omega
        have p0 : (0 : Int) ≤ (k : Int) := by omega
        have p1 : (k : Int) < (n : Int) := by omega
        have p2 : (k : Int) < (m : Int) := by have := hnm.out; omega
        obtain ⟨⟨x1, x2⟩, hx⟩ : ∃ x, A[k]? = some x := ⟨A[k]'(by have := hn'.out; omega), by simp⟩
        obtain ⟨⟨y1, y2⟩, hy⟩ : ∃ x, B[k]? = some x := ⟨B[k]'(by have := hm'.out; omega), by simp⟩
        obtain ⟨_, _, g, off, rfl, c0, c1⟩ := PrV.at (ha.out.up hB.out) hx
        obtain ⟨_, _, h, off2, rfl, d0, d1⟩ := PrV.at (hb.out.up hB.out) hy
        simp only at c0 c1 d0 d1
        have hxH := Lib.hid hx
        have hyH := Lib.hid hy
        have hB' := Lib.hid (hB.out.trans (((Below.refl wr.heap.size wr).drew).mono hB.out.size))
        clear hx hy hst hlt
        by_cases e1 : x1 = y1
        · by_cases e2 : x2 = y2
          · have f1 : (x1 == y1) = true := by simpa using e1
            have f2 : (x2 == y2) = true := by simpa using e2
            have hE' := Lib.hid (hE.out.step hxH.out hyH.out (by rw [e1, e2]))
            clear e1 e2
            go_upto_region 6 with fail
            refine wp_region_still_lit (by kernel_rfl) (by kernel_rfl) ?_
            iterate 9 still_step
            refine wpStill_nil ?_
            change Exit.then _ _ Exit.normal _ wr.drew
            go_wp2_with fail
            go_roundw
            case rel => exact ⟨k + 1, by omega, by go_num, hE', hB'⟩
            case measure => simp [intOf]; omega
          · have f1 : (x1 == y1) = true := by simpa using e1
            have f2 : (x2 == y2) = false := by simpa using e2
            have e := Lib.hid (eq_not hxH.out hyH.out (fun h => e2 (congrArg Prod.snd h)))
            clear e1 e2
            go_upto_region 6 with fail
            refine wp_region_still_lit (by kernel_rfl) (by kernel_rfl) ?_
            iterate 9 still_step
            refine wpStill_nil ?_
            change Exit.then _ _ Exit.normal _ wr.drew
            go_wp2_with fail
            go_ret
            exact ⟨congrArg (fun b => Ending.returned (Value.bool b)) e.out.symm, hB'.out⟩
        · have f1 : (x1 == y1) = false := by simpa using e1
          have e := Lib.hid (eq_not hxH.out hyH.out (fun h => e1 (congrArg Prod.fst h)))
          clear e1
          go_upto_region 6 with fail
          refine wp_region_still_lit (by kernel_rfl) (by kernel_rfl) ?_
          iterate 9 still_step
          refine wpStill_nil ?_
          change Exit.then _ _ Exit.normal _ wr.drew
          go_wp2_with fail
          go_ret
          exact ⟨congrArg (fun b => Ending.returned (Value.bool b)) e.out.symm, hB'.out⟩
      · have e := Lib.hid (EqR.last (A := A) (B := B) (n := n) (by have := hE.out; rw [show k = n by omega] at this; exact this) hn'.out (by rw [hnm.out]; exact hm'.out))
        have hlt' : decide ((k : Int) < (n : Int)) = false := by simp; omega
        go_wp2
        go_ret
        exact ⟨congrArg (fun b => Ending.returned (Value.bool b)) e.out.symm, hB.out⟩
  · have hl' : ((A.length : Int) != (B.length : Int)) = true := by simp; omega
    have e := Lib.hid (eq_len hl)
    clear hl
    go_enter Tryd.func34, Tryd.ntmps34
    go_wp2
    go_ret
    exact ⟨congrArg (fun b => Ending.returned (Value.bool b)) e.out.symm, Below.refl _ _⟩
end Wd
end Go.Proofs.YtkodnioheifalaaDoor

/- Bytes as a text. -/
namespace Go.Proofs.YtkodnioheifalaaDoor
open Go.RowKit
set_option linter.unusedVariables false
set_option maxRecDepth 20000
namespace Wd
def byteL (L : List Int) : List UInt8 := L.map (fun x => UInt8.ofNat x.toNat)
def textOf (L : List Int) : ByteArray := ⟨(byteL L).toArray⟩
theorem byte_of {x : Int} (h : 0 ≤ x ∧ x ≤ 255) : (((UInt8.ofNat x.toNat).toNat : Nat) : Int) = x := by
  have : x.toNat < 256 := by omega
  rw [UInt8.toNat_ofNat_of_lt' (by simpa [UInt8.size] using this)]
  omega
theorem textOf_inj : ∀ {A B : List Int}, (∀ x ∈ A, 0 ≤ x ∧ x ≤ 255) → (∀ x ∈ B, 0 ≤ x ∧ x ≤ 255) → textOf A = textOf B → A = B := by
  have key : ∀ (A B : List Int), (∀ x ∈ A, 0 ≤ x ∧ x ≤ 255) → (∀ x ∈ B, 0 ≤ x ∧ x ≤ 255) → byteL A = byteL B → A = B := by
    intro A
    induction A with
    | nil =>
      intro B _ _ h
      cases B with
      | nil => rfl
      | cons y B => simp [byteL] at h
    | cons x A ih =>
      intro B hA hB h
      cases B with
      | nil => simp [byteL] at h
      | cons y B =>
        simp only [byteL, List.map_cons, List.cons.injEq] at h
        obtain ⟨h1, h2⟩ := h
        have e : x = y := by
          rw [← byte_of (hA x (List.mem_cons_self ..)), ← byte_of (hB y (List.mem_cons_self ..)), h1]
        rw [e, ih B (fun z hz => hA z (List.mem_cons_of_mem _ hz)) (fun z hz => hB z (List.mem_cons_of_mem _ hz)) h2]
  intro A B hA hB h
  refine key A B hA hB ?_
  have : (byteL A).toArray = (byteL B).toArray := congrArg ByteArray.data h
  simpa using this
theorem ByV.bd {w : World} {v : Value} {L : List Int} (h : ByV w v L) : ∀ x ∈ L, 0 ≤ x ∧ x ≤ 255 := by
  obtain ⟨ad, cap, rfl, _⟩ := h.form
  intro x hx
  obtain ⟨k, hk⟩ := List.getElem?_of_mem hx
  exact (h.at hk).1
theorem by_text {w : World} {v : Value} {L : List Int} (h : ByV w v L) : (convert 35 9 v).run Tryd.prog w = .ok (.string (textOf L)) w := by
  obtain ⟨ad, cap, rfl, _⟩ := h.form
  have hlen : L.length = (byteL L).length := by simp [byteL]
  cases hL : L with
  | nil =>
    rw [run_convert_bytes_string (P := Tryd.prog) w 35 9 5 ad ([] : List Int).length cap Tryd.underlying35 Tryd.underlying5 Tryd.underlying9]
    have hl := run_loadCells_list (P := Tryd.prog) (w := w)
    cases ad with
    | none => simp [Conv.bytesToString, Sem.run_pure, textOf, byteL] <;> rfl
    | some a =>
      have h0 := hl a [] (fun j v hj => by simp at hj)
      simp [Conv.bytesToString, Sem.run_bind, textOf, byteL] at h0 ⊢
      first | done | (rw [h0]; rfl) | simp [h0]
  | cons x R =>
    rw [← hL]
    obtain ⟨_, g, off, rfl, _⟩ := h.at (k := 0) (x := x) (by rw [hL]; rfl)
    rw [hlen]
    refine run_convert_bytes_back (P := Tryd.prog) w 35 9 5 ⟨g, off, none⟩ cap (byteL L) Tryd.underlying35 Tryd.underlying5 Tryd.underlying9 (fun j hj => ?_)
    rw [Addr.add_lit]
    have hj' : j < L.length := by rw [hlen]; exact hj
    obtain ⟨b, g', off', e, c0⟩ := h.at (List.getElem?_eq_getElem hj')
    cases e
    rw [c0]
    simp only [byteL, List.getElem_map]
    rw [byte_of b]
end Wd
end Go.Proofs.YtkodnioheifalaaDoor

/- Are two methods the same? (the document's own) -/
namespace Go.Proofs.YtkodnioheifalaaDoor
open Go.RowKit
set_option linter.unusedVariables false
set_option maxRecDepth 20000
namespace Wd
/-- two methods lie boxed -/
structure Sm2 (w wr : World) (A B : MethA) (la lb ca cb : Option Addr) (lac lbc cac cbc : Nat) : Prop where
  mk ::
  cells : wr.cell? ⟨w.heap.size, 0, none⟩ = some (.int .i64 A.args) ∧ wr.cell? ⟨w.heap.size, 1, none⟩ = some (.int .i64 A.temps) ∧ wr.cell? ⟨w.heap.size, 2, none⟩ = some (.slice la A.lits.length lac) ∧ wr.cell? ⟨w.heap.size, 3, none⟩ = some (.slice ca A.code.length cac) ∧ wr.cell? ⟨w.heap.size + 1, 0, none⟩ = some (.int .i64 B.args) ∧ wr.cell? ⟨w.heap.size + 1, 1, none⟩ = some (.int .i64 B.temps) ∧ wr.cell? ⟨w.heap.size + 1, 2, none⟩ = some (.slice lb B.lits.length lbc) ∧ wr.cell? ⟨w.heap.size + 1, 3, none⟩ = some (.slice cb B.code.length cbc) ∧ ByV wr (.slice ca A.code.length cac) A.code ∧ ByV wr (.slice cb B.code.length cbc) B.code
  pa : PrV wr (.slice la A.lits.length lac) A.lits
  pb : PrV wr (.slice lb B.lits.length lbc) B.lits
  bel : Below w.heap.size w wr
theorem Sm2.up {w wr w2 : World} {A B : MethA} {la lb ca cb : Option Addr} {lac lbc cac cbc : Nat} (h : Sm2 w wr A B la lb ca cb lac lbc cac cbc) (b : Below wr.heap.size wr w2) : Sm2 w w2 A B la lb ca cb lac lbc cac cbc := by
  obtain ⟨a0, a1, a2, a3, b0, b1, b2, b3, y0, y1⟩ := h.cells
  exact ⟨⟨cell_up b a0, cell_up b a1, cell_up b a2, cell_up b a3, cell_up b b0, cell_up b b1, cell_up b b2, cell_up b b3, y0.up b, y1.up b⟩, h.pa.up b, h.pb.up b, h.bel.trans (b.mono h.bel.size)⟩
def methEq (A B : MethA) : Bool := decide (A.args = B.args) && (decide (A.temps = B.temps) && (decide (A.lits = B.lits) && decide (A.code = B.code)))
theorem meq1 {A B : MethA} (h : ¬ A.args = B.args) : methEq A B = false := by unfold methEq; rw [decide_eq_false h]; rfl
theorem meq2 {A B : MethA} (h : ¬ A.temps = B.temps) : methEq A B = false := by unfold methEq; rw [decide_eq_false h, Bool.false_and, Bool.and_false]
theorem meq3 {A B : MethA} (h : ¬ A.lits = B.lits) : methEq A B = false := by unfold methEq; rw [decide_eq_false h, Bool.false_and, Bool.and_false, Bool.and_false]
theorem meq4 {A B : MethA} (h : ¬ A.code = B.code) : methEq A B = false := by unfold methEq; rw [decide_eq_false h, Bool.and_false, Bool.and_false, Bool.and_false]
theorem meq5 {A B : MethA} (h1 : A.args = B.args) (h2 : A.temps = B.temps) (h3 : A.lits = B.lits) (h4 : A.code = B.code) : methEq A B = true := by unfold methEq; rw [decide_eq_true h1, decide_eq_true h2, decide_eq_true h3, decide_eq_true h4]; rfl
set_option maxHeartbeats 16000000 in
theorem rsamem_c {w : World} {a b : Value} {A B : MethA} (ha : MeV w a A) (hb : MeV w b B) :
    Calls Tryd.prog 16 #[a, b] w fun e w' => e = .returned (.bool (methEq A B)) ∧ Below w.heap.size w w' := by
  obtain ⟨la, lac, ca, cac, rfl, hla, hca⟩ := ha.ex
  obtain ⟨lb, lbc, cb, cbc, rfl, hlb, hcb⟩ := hb.ex
  have hw1 := (Below.refl w.heap.size w).alloc (Nat.le_refl _) (.cells #[.int .i64 A.args, .int .i64 A.temps, .slice la A.lits.length lac, .slice ca A.code.length cac] 37)
  have hw2 := hw1.alloc (by simp only [World.size_alloc]; omega) (.cells #[.int .i64 B.args, .int .i64 B.temps, .slice lb B.lits.length lbc, .slice cb B.code.length cbc] 37)
  have i1 : (w.alloc (.cells #[.int .i64 A.args, .int .i64 A.temps, .slice la A.lits.length lac, .slice ca A.code.length cac] 37)).heap.size = w.heap.size + 1 := by simp
  have hS : Hid (Sm2 w ((w.alloc (.cells #[.int .i64 A.args, .int .i64 A.temps, .slice la A.lits.length lac, .slice ca A.code.length cac] 37)).alloc (.cells #[.int .i64 B.args, .int .i64 B.temps, .slice lb B.lits.length lbc, .slice cb B.code.length cbc] 37)) A B la lb ca cb lac lbc cac cbc) := Lib.hid ⟨⟨(World.cell?_alloc_old _ _ _ (by simp)).trans (by simp), (World.cell?_alloc_old _ _ _ (by simp)).trans (by simp), (World.cell?_alloc_old _ _ _ (by simp)).trans (by simp), (World.cell?_alloc_old _ _ _ (by simp)).trans (by simp), by rw [← i1]; simp, by rw [← i1]; simp, by rw [← i1]; simp, by rw [← i1]; simp, hca.up hw2, hcb.up hw2⟩, hla.up hw2, hlb.up hw2, hw2⟩
  have PV := Lib.hid (fun (w' : World) (h1 : PrV w' (.slice la A.lits.length lac) A.lits) (h2 : PrV w' (.slice lb B.lits.length lbc) B.lits) => rvals_c h1 h2)
  have hcd := Lib.hid (fun h => textOf_inj (A := A.code) (B := B.code) hca.bd hcb.bd h)
  clear ha hb hla hca hlb hcb hw1 hw2 i1
  go_enter Tryd.func16, Tryd.ntmps16
  go_upto_region 1 with fail
  generalize ((w.alloc (.cells #[.int .i64 A.args, .int .i64 A.temps, .slice la A.lits.length lac, .slice ca A.code.length cac] 37)).alloc (.cells #[.int .i64 B.args, .int .i64 B.temps, .slice lb B.lits.length lbc, .slice cb B.code.length cbc] 37)) = W at *
  by_cases g1 : ¬ A.args = B.args
  · have d1 : (A.args == B.args) = false := by simpa using g1
    have e := Lib.hid (meq1 g1)
    clear g1 PV hcd
    obtain ⟨a0, a1, a2, a3, b0, b1, b2, b3, y0, y1⟩ := hS.out.cells
    go_wp2
    go_ret
    exact ⟨congrArg (fun b => Ending.returned (Value.bool b)) e.out.symm, hS.out.bel⟩
  replace g1 : A.args = B.args := Decidable.not_not.1 g1
  have d1 : (A.args == B.args) = true := by simpa using g1
  by_cases g2 : ¬ A.temps = B.temps
  · have d2 : (A.temps == B.temps) = false := by simpa using g2
    have e := Lib.hid (meq2 g2)
    clear g1 g2 PV hcd
    obtain ⟨a0, a1, a2, a3, b0, b1, b2, b3, y0, y1⟩ := hS.out.cells
    go_wp2
    go_ret
    exact ⟨congrArg (fun b => Ending.returned (Value.bool b)) e.out.symm, hS.out.bel⟩
  replace g2 : A.temps = B.temps := Decidable.not_not.1 g2
  have d2 : (A.temps == B.temps) = true := by simpa using g2
  by_cases g3 : ¬ A.lits = B.lits
  · rw [decide_eq_false g3] at PV
    have e := Lib.hid (meq3 g3)
    clear g1 g2 g3 hcd
    obtain ⟨a0, a1, a2, a3, b0, b1, b2, b3, y0, y1⟩ := hS.out.cells
    go_wp2_with (first | (go_at_call 34; ((with_reducible refine (PV.out _ hS.out.pa hS.out.pb).mono ?_); rintro e1 z1 ⟨rfl, hb⟩; replace hS := Lib.hid (hS.out.up hb); clear hb a0 a1 a2 a3 b0 b1 b2 b3 y0 y1; obtain ⟨a0, a1, a2, a3, b0, b1, b2, b3, y0, y1⟩ := hS.out.cells; have hcv1 := by_text y0; have hcv2 := by_text y1; go_wp2_with fail)))
    go_ret
    exact ⟨congrArg (fun b => Ending.returned (Value.bool b)) e.out.symm, hS.out.bel⟩
  replace g3 : A.lits = B.lits := Decidable.not_not.1 g3
  rw [decide_eq_true g3] at PV
  by_cases g4 : ¬ A.code = B.code
  · have d4 : ((textOf A.code).toList == (textOf B.code).toList) = false := bl_ne (fun h => g4 (hcd.out h))
    have e := Lib.hid (meq4 g4)
    clear g1 g2 g3 g4 hcd
    obtain ⟨a0, a1, a2, a3, b0, b1, b2, b3, y0, y1⟩ := hS.out.cells
    go_wp2_with (first | (go_at_call 34; ((with_reducible refine (PV.out _ hS.out.pa hS.out.pb).mono ?_); rintro e1 z1 ⟨rfl, hb⟩; replace hS := Lib.hid (hS.out.up hb); clear hb a0 a1 a2 a3 b0 b1 b2 b3 y0 y1; obtain ⟨a0, a1, a2, a3, b0, b1, b2, b3, y0, y1⟩ := hS.out.cells; have hcv1 := by_text y0; have hcv2 := by_text y1; go_wp2_with fail)))
    go_ret
    exact ⟨congrArg (fun b => Ending.returned (Value.bool b)) e.out.symm, hS.out.bel⟩
  replace g4 : A.code = B.code := Decidable.not_not.1 g4
  have d4 : ((textOf A.code).toList == (textOf B.code).toList) = true := bl_eq (by rw [g4])
  have e := Lib.hid (meq5 g1 g2 g3 g4)
  clear g1 g2 g3 g4 hcd
  obtain ⟨a0, a1, a2, a3, b0, b1, b2, b3, y0, y1⟩ := hS.out.cells
  go_wp2_with (first | (go_at_call 34; ((with_reducible refine (PV.out _ hS.out.pa hS.out.pb).mono ?_); rintro e1 z1 ⟨rfl, hb⟩; replace hS := Lib.hid (hS.out.up hb); clear hb a0 a1 a2 a3 b0 b1 b2 b3 y0 y1; obtain ⟨a0, a1, a2, a3, b0, b1, b2, b3, y0, y1⟩ := hS.out.cells; have hcv1 := by_text y0; have hcv2 := by_text y1; go_wp2_with fail)))
  go_ret
  exact ⟨congrArg (fun b => Ending.returned (Value.bool b)) e.out.symm, hS.out.bel⟩
end Wd
end Go.Proofs.YtkodnioheifalaaDoor

/- The shelf's contracts at this program. -/
namespace Go.Proofs
open Go.Shelf
def Tryd.lays169_ren : Go.Shelf.Ren := ⟨fun | 169 => 33 | n => n, fun | 70 => 69 | 9 => 9 | 0 => 0 | 72 => 71 | 37 => 35 | 127 => 94 | 3 => 3 | 5 => 5 | n => n, fun | n => n⟩
theorem Tryd.lays169 : Go.Proofs.Lays.n169 Tryd.prog Tryd.lays169_ren := {
  mixed := by kernel_rfl
  f169 := Tryd.func33.trans (congrArg some (by kernel_rfl))
  t0 := Tryd.underlying0
  a0 := Tryd.isAgg0
  z0 := Tryd.sizeOf0
  v0 := Tryd.zeroValue0
  t3 := Tryd.underlying3
  a3 := Tryd.isAgg3
  z3 := Tryd.sizeOf3
  v3 := Tryd.zeroValue3
  t9 := Tryd.underlying9
  a9 := Tryd.isAgg9
  z9 := Tryd.sizeOf9
  v9 := Tryd.zeroValue9
  t37 := Tryd.underlying35
  a37 := Tryd.isAgg35
  z37 := Tryd.sizeOf35
  v37 := Tryd.zeroValue35
  t70 := Tryd.underlying69
  a70 := Tryd.isAgg69
  z70 := Tryd.sizeOf69
  v70 := Tryd.zeroValue69
  t72 := Tryd.underlying71
  a72 := Tryd.isAgg71
  z72 := Tryd.sizeOf71
  v72 := Tryd.zeroValue71
  t127 := Tryd.underlying94
  a127 := Tryd.isAgg94
  z127 := Tryd.sizeOf94
  v127 := Tryd.zeroValue94 }
theorem Tryd.Builder_Extra_169 : Builder.Extra Tryd.prog Tryd.lays169_ren := {
  sizeBuilder := by kernel_rfl
  liesBuilder := by kernel_rfl
  t5 := Tryd.underlying5
  a5 := Tryd.isAgg5
  z5 := Tryd.sizeOf5
  v5 := Tryd.zeroValue5
  infoByte := by kernel_rfl
  cellsByte := by kernel_rfl
  sizeByte := by kernel_rfl
  neB5 := by decide }
open Go.RowKit in
/-- (*strings.Builder).String: "String returns the accumulated string.": WHATEVER THE BUILDER HOLDS. (LAID: no walk: one application.) -/
theorem Tryd.Builder_String_any (B b : Nat) (l : List UInt8) (w : World) (h : Lib.IsBuilder 71 5 B b (Lib.byteCells l) w) (hBw : B ≤ w.heap.size) :
    Calls Tryd.prog 33 #[.pointer (some ⟨b, 0, none⟩)] w fun e w' => e = .returned (.string ⟨l.toArray⟩) ∧ Below B w w' := Any.Builder_String_any Tryd.lays169 Tryd.Builder_Extra_169 B b l w h hBw
def Tryd.lays103_ren : Go.Shelf.Ren := ⟨fun | 103 => 52 | 210 => 61 | 206 => 71 | n => n, fun | 9 => 9 | 4 => 4 | 24 => 95 | 3 => 3 | n => n, fun | n => n⟩
theorem Tryd.lays103 : Go.Proofs.Lays.n103 Tryd.prog Tryd.lays103_ren := {
  mixed := by kernel_rfl
  f103 := Tryd.func52.trans (congrArg some (by kernel_rfl))
  f206 := Tryd.func71.trans (congrArg some (by kernel_rfl))
  f210 := Tryd.func61.trans (congrArg some (by kernel_rfl))
  t3 := Tryd.underlying3
  a3 := Tryd.isAgg3
  z3 := Tryd.sizeOf3
  v3 := Tryd.zeroValue3
  t4 := Tryd.underlying4
  a4 := Tryd.isAgg4
  z4 := Tryd.sizeOf4
  v4 := Tryd.zeroValue4
  t9 := Tryd.underlying9
  a9 := Tryd.isAgg9
  z9 := Tryd.sizeOf9
  v9 := Tryd.zeroValue9
  t24 := Tryd.underlying95
  a24 := Tryd.isAgg95
  z24 := Tryd.sizeOf95
  v24 := Tryd.zeroValue95 }
open Go.RowKit in
/-- strings.CutPrefix: "CutPrefix returns s without the provided leading prefix string and reports whether it found the prefix. If s doesn't start with prefix, CutPrefix returns s, false. If prefix is the empty string, CutPrefix returns s, true.": IT RETURNS '(Lib.trimPrefix s p, Lib.hasPrefix s p)'; the world is as it was. (LAID: no walk: one application.) -/
theorem Tryd.strings_CutPrefix (s p : ByteArray) (w : World) :
    Calls Tryd.prog 52 #[.string s, .string p] w fun e w' => e = .returned (.tuple #[.string ⟨(Lib.trimPrefix s.data.toList p.data.toList).toArray⟩, .bool (Lib.hasPrefix s.data.toList p.data.toList)]) ∧ w' = w := Any.strings_CutPrefix Tryd.lays103 s p w
def Tryd.laysM171_ren : Go.Shelf.Ren := ⟨fun | 171 => 29 | 243 => 50 | 246 => 60 | 283 => 67 | 284 => 68 | 285 => 69 | 286 => 70 | 129 => 75 | 317 => 74 | 318 => 76 | 319 => 77 | 320 => 78 | 337 => 79 | 338 => 80 | n => n, fun | 3 => 3 | 9 => 9 | 2 => 2 | 4 => 4 | 171 => 107 | 0 => 0 | 53 => 108 | 37 => 35 | 5 => 5 | 173 => 111 | 212 => 118 | 51 => 114 | 20 => 20 | 213 => 119 | 46 => 104 | 232 => 123 | 233 => 124 | n => n, fun | 17 => 1 | 18 => 2 | 19 => 3 | n => n⟩
theorem Tryd.laysM171 : Go.Proofs.LaysM.n171 Tryd.prog Tryd.laysM171_ren := {
  mixed := by kernel_rfl
  f129 := Tryd.func75.trans (congrArg some (by kernel_rfl))
  f171 := Tryd.func29.trans (congrArg some (by kernel_rfl))
  f243 := Tryd.func50.trans (congrArg some (by kernel_rfl))
  f246 := Tryd.func60.trans (congrArg some (by kernel_rfl))
  f283 := Tryd.func67.trans (congrArg some (by kernel_rfl))
  f284 := Tryd.func68.trans (congrArg some (by kernel_rfl))
  f285 := Tryd.func69.trans (congrArg some (by kernel_rfl))
  f286 := Tryd.func70.trans (congrArg some (by kernel_rfl))
  f317 := Tryd.func74.trans (congrArg some (by kernel_rfl))
  f318 := Tryd.func76.trans (congrArg some (by kernel_rfl))
  f319 := Tryd.func77.trans (congrArg some (by kernel_rfl))
  f320 := Tryd.func78.trans (congrArg some (by kernel_rfl))
  f337 := Tryd.func79.trans (congrArg some (by kernel_rfl))
  f338 := Tryd.func80.trans (congrArg some (by kernel_rfl))
  t0 := Tryd.underlying0
  a0 := Tryd.isAgg0
  z0 := Tryd.sizeOf0
  v0 := Tryd.zeroValue0
  t2 := Tryd.underlying2
  a2 := Tryd.isAgg2
  z2 := Tryd.sizeOf2
  v2 := Tryd.zeroValue2
  t3 := Tryd.underlying3
  a3 := Tryd.isAgg3
  z3 := Tryd.sizeOf3
  v3 := Tryd.zeroValue3
  t4 := Tryd.underlying4
  a4 := Tryd.isAgg4
  z4 := Tryd.sizeOf4
  v4 := Tryd.zeroValue4
  t5 := Tryd.underlying5
  a5 := Tryd.isAgg5
  z5 := Tryd.sizeOf5
  v5 := Tryd.zeroValue5
  t9 := Tryd.underlying9
  a9 := Tryd.isAgg9
  z9 := Tryd.sizeOf9
  v9 := Tryd.zeroValue9
  t20 := Tryd.underlying20
  a20 := Tryd.isAgg20
  z20 := Tryd.sizeOf20
  v20 := Tryd.zeroValue20
  t37 := Tryd.underlying35
  a37 := Tryd.isAgg35
  z37 := Tryd.sizeOf35
  v37 := Tryd.zeroValue35
  t46 := Tryd.underlying104
  a46 := Tryd.isAgg104
  z46 := Tryd.sizeOf104
  v46 := Tryd.zeroValue104
  t51 := Tryd.underlying114
  a51 := Tryd.isAgg114
  z51 := Tryd.sizeOf114
  v51 := Tryd.zeroValue114
  t53 := Tryd.underlying108
  a53 := Tryd.isAgg108
  z53 := Tryd.sizeOf108
  v53 := Tryd.zeroValue108
  t171 := Tryd.underlying107
  a171 := Tryd.isAgg107
  z171 := Tryd.sizeOf107
  v171 := Tryd.zeroValue107
  t173 := Tryd.underlying111
  a173 := Tryd.isAgg111
  z173 := Tryd.sizeOf111
  v173 := Tryd.zeroValue111
  t212 := Tryd.underlying118
  a212 := Tryd.isAgg118
  z212 := Tryd.sizeOf118
  v212 := Tryd.zeroValue118
  t213 := Tryd.underlying119
  a213 := Tryd.isAgg119
  z213 := Tryd.sizeOf119
  t232 := Tryd.underlying123
  a232 := Tryd.isAgg123
  z232 := Tryd.sizeOf123
  v232 := Tryd.zeroValue123
  t233 := Tryd.underlying124
  a233 := Tryd.isAgg124
  z233 := Tryd.sizeOf124
  v233 := Tryd.zeroValue124
  g17 := by kernel_rfl
  g18 := by kernel_rfl
  g19 := by kernel_rfl
  i0 := by kernel_rfl
  i2 := by kernel_rfl
  i3 := by kernel_rfl
  i4 := by kernel_rfl
  i5 := by kernel_rfl
  i9 := by kernel_rfl
  i20 := by kernel_rfl
  i37 := by kernel_rfl
  i46 := by kernel_rfl
  i51 := by kernel_rfl
  i53 := by kernel_rfl
  i171 := by kernel_rfl
  i173 := by kernel_rfl
  i212 := by kernel_rfl
  i232 := by kernel_rfl
  i233 := by kernel_rfl
  m17 := by kernel_rfl
  m18 := by kernel_rfl
  m19 := by kernel_rfl }
open Go.RowKit Go.Sort Go.Lib in
/-- strconv.Itoa: "Itoa is equivalent to FormatInt(int64(i), 10).": i's DECIMAL NUMERAL ('Lib.itoa': a '-' where i is negative, then the digits), FOR EVERY int. The world behind the call: the world before it, new blocks behind the heap (the library's 'var a [24]byte'), draws. (LAID: no walk: one application.) -/
theorem Tryd.strconv_Itoa (n : Int) (h0 : -9223372036854775808 ≤ n) (h1 : n ≤ 9223372036854775807) (w : World) (htab : Lib.TabIs Tryd.prog w "internal/strconv.uint64pow10" .u64 Lib.pow10Tab) :
    Calls Tryd.prog 29 #[.int .i64 n] w fun e w' => e = .returned (.string ⟨(Lib.itoa n).toArray⟩) ∧ ∃ k os, w' = grow (w.drewN k) os := Any.strconv_Itoa Tryd.laysM171 n h0 h1 w htab
def Tryd.lays219_ren : Go.Shelf.Ren := ⟨fun | 219 => 55 | 217 => 62 | 225 => 63 | 224 => 64 | 267 => 65 | 266 => 72 | 314 => 73 | n => n, fun | 9 => 9 | 3 => 3 | 4 => 4 | 5 => 5 | 46 => 104 | 146 => 115 | 51 => 114 | n => n, fun | 1 => 0 | n => n⟩
theorem Tryd.lays219 : Go.Proofs.Lays.n219 Tryd.prog Tryd.lays219_ren := {
  mixed := by kernel_rfl
  f217 := Tryd.func62.trans (congrArg some (by kernel_rfl))
  f219 := Tryd.func55.trans (congrArg some (by kernel_rfl))
  f224 := Tryd.func64.trans (congrArg some (by kernel_rfl))
  f225 := Tryd.func63.trans (congrArg some (by kernel_rfl))
  f266 := Tryd.func72.trans (congrArg some (by kernel_rfl))
  f267 := Tryd.func65.trans (congrArg some (by kernel_rfl))
  f314 := Tryd.func73.trans (congrArg some (by kernel_rfl))
  t3 := Tryd.underlying3
  a3 := Tryd.isAgg3
  z3 := Tryd.sizeOf3
  v3 := Tryd.zeroValue3
  t4 := Tryd.underlying4
  a4 := Tryd.isAgg4
  z4 := Tryd.sizeOf4
  v4 := Tryd.zeroValue4
  t5 := Tryd.underlying5
  a5 := Tryd.isAgg5
  z5 := Tryd.sizeOf5
  v5 := Tryd.zeroValue5
  t9 := Tryd.underlying9
  a9 := Tryd.isAgg9
  z9 := Tryd.sizeOf9
  v9 := Tryd.zeroValue9
  t46 := Tryd.underlying104
  a46 := Tryd.isAgg104
  z46 := Tryd.sizeOf104
  v46 := Tryd.zeroValue104
  t51 := Tryd.underlying114
  a51 := Tryd.isAgg114
  z51 := Tryd.sizeOf114
  v51 := Tryd.zeroValue114
  t146 := Tryd.underlying115
  a146 := Tryd.isAgg115
  z146 := Tryd.sizeOf115
  v146 := Tryd.zeroValue115
  g1 := by kernel_rfl }
open Go.RowKit Go.Lib in
/-- internal/stringslite.Index (what strings.Index calls) AT A substr OF ONE BYTE c: IT RETURNS 'Lib.indexByte s c'; the world is as it was. (LAID: no walk: one application.) -/
theorem Tryd.stringslite_Index_one (s : ByteArray) (c : UInt8) (w : World) :
    Calls Tryd.prog 55 #[.string s, .string ⟨#[c]⟩] w fun e w' => e = .returned (.int .i64 (Lib.indexByte s.data.toList c)) ∧ w' = w := Any.stringslite_Index_one Tryd.lays219 s c w
end Go.Proofs

/- Texts as rows of bytes; what the shelf gives: numerals, cutting at a byte, a prefix. -/
namespace Go.Proofs.YtkodnioheifalaaDoor
open Go.RowKit
set_option linter.unusedVariables false
set_option maxRecDepth 20000
namespace Wd
/-- a row of bytes as a text -/
def bs (l : Bs) : ByteArray := ⟨l.toArray⟩
theorem bs_eta (s : ByteArray) : bs s.data.toList = s := by cases s; simp [bs]
theorem bs_list (l : Bs) : (bs l).data.toList = l := by simp [bs]
theorem bs_size (l : Bs) : (bs l).size = l.length := by simp [bs, ByteArray.size]
theorem bs_app (a b : Bs) : bs a ++ bs b = bs (a ++ b) := by
  apply ByteArray.ext
  simp [bs, ByteArray.data_append]
theorem bs_inj {a b : Bs} (h : bs a = bs b) : a = b := by
  have := congrArg (fun s : ByteArray => s.data.toList) h
  simpa [bs] using this
theorem dg_dec : ∀ (f n : Nat), n < 10 ^ f → n ≠ 0 → dgF f n = Lib.decDigits n
  | 0, n, h, h0 => by omega
  | f + 1, n, h, h0 => by
    rw [dgF, if_neg h0, Lib.decDigits]
    by_cases h1 : n < 10
    · rw [dif_pos h1, show n / 10 = 0 by omega, show n % 10 = n by omega]
      cases f with
      | zero => rfl
      | succ f => rw [dgF, if_pos rfl]; rfl
    · rw [dif_neg h1, dg_dec f (n / 10) (by rw [Nat.pow_succ] at h; omega) (by omega)]
theorem itoa_num {n : Int} (h : In64 n) : Lib.itoa n = numB n := by
  unfold Lib.itoa numB
  obtain ⟨h1, h2⟩ := h
  by_cases h0 : n = 0
  · subst h0
    rw [if_neg (by omega), if_pos rfl, Lib.decDigits]
    rfl
  · rw [if_neg h0]
    by_cases hn : n < 0
    · rw [if_pos hn, if_pos hn, dg_dec 20 n.natAbs (by omega) (by omega)]
    · rw [if_neg hn, if_neg hn, dg_dec 20 n.natAbs (by omega) (by omega), show n.natAbs = n.toNat by omega]
/-- what the laws need of the package-level variables -/
def Gl (w : World) : Prop := Lib.TabIs Tryd.prog w "internal/strconv.uint64pow10" .u64 Lib.pow10Tab
theorem gl_at : Tryd.prog.globalNamed "internal/strconv.uint64pow10" = some 1 := by kernel_rfl
theorem gl_heap {w : World} (h : Gl w) : ∃ cs t z, w.heap[1]? = some (.cells cs t z) ∧ cs = (Lib.pow10Tab.map fun z => Value.int .u64 z).toArray := by
  have h' : w.var? Tryd.prog "internal/strconv.uint64pow10" = some (Lib.pow10Tab.map fun z => Value.int .u64 z).toArray := h
  unfold World.var? at h'
  rw [gl_at] at h'
  simp only [Option.bind_some] at h'
  split at h'
  · rename_i cs t z he
    exact ⟨cs, t, z, he, Option.some.inj h'⟩
  · cases h'
theorem gl_mk {w : World} {t : TypeId} {z : Nat × Nat} (h : w.heap[1]? = some (.cells (Lib.pow10Tab.map fun z => Value.int .u64 z).toArray t z)) : Gl w := by
  show w.var? Tryd.prog "internal/strconv.uint64pow10" = _
  unfold World.var?
  rw [gl_at]
  simp only [Option.bind_some, h]
theorem Gl.lt {w : World} (h : Gl w) : 1 < w.heap.size := by
  obtain ⟨cs, t, z, h1, _⟩ := gl_heap h
  rcases Nat.lt_or_ge 1 w.heap.size with h' | h'
  · exact h'
  · rw [Array.getElem?_eq_none h'] at h1
    cases h1
theorem Gl.up {w w' : World} (h : Gl w) (b : Below w.heap.size w w') : Gl w' := by
  obtain ⟨cs, t, z, h1, rfl⟩ := gl_heap h
  exact gl_mk ((b.block _ h.lt).trans h1)
theorem Gl.cg {w w' : World} {F : Nat → Prop} (h : Gl w) (c : Cg F w w') (hF : ¬ F 1) : Gl w' := by
  obtain ⟨cs, t, z, h1, rfl⟩ := gl_heap h
  exact gl_mk ((c.block _ h.lt hF).trans h1)
theorem grow_below {w : World} {k : Nat} {os : Array Obj} : Below w.heap.size w (Sort.grow (w.drewN k) os) := by
  refine ⟨rfl, rfl, rfl, by simp [Sort.grow, World.drewN], fun i hi => ?_⟩
  show (w.heap ++ os)[i]? = _
  rw [Array.getElem?_append_left hi]
theorem itoa_c {w : World} {n : Int} (hn : In64 n) (hg : Gl w) :
    Calls Tryd.prog 29 #[.int .i64 n] w fun e w' => e = .returned (.string (bs (numB n))) ∧ Below w.heap.size w w' := by
  refine (Tryd.strconv_Itoa n hn.1 hn.2 w hg).mono ?_
  rintro e w' ⟨rfl, k, os, rfl⟩
  exact ⟨by rw [itoa_num hn]; rfl, grow_below⟩
theorem cutp_c (s p : Bs) (w : World) :
    Calls Tryd.prog 52 #[.string (bs s), .string (bs p)] w fun e w' => e = .returned (.tuple #[.string (bs (if p.isPrefixOf s then s.drop p.length else s)), .bool (p.isPrefixOf s)]) ∧ w' = w := by
  refine (Tryd.strings_CutPrefix (bs s) (bs p) w).mono ?_
  rintro e w' ⟨rfl, rfl⟩
  rw [bs_list, bs_list]
  exact ⟨rfl, rfl⟩
end Wd
end Go.Proofs.YtkodnioheifalaaDoor

/- What the shells of the laws begin with: the package-level variables as the text lays them. -/
namespace Go.Proofs.YtkodnioheifalaaDoor
open Go.ChangeShapes Go.WideShapes Go.ChangeAt Go.RowKit
set_option linter.unusedVariables false
set_option maxRecDepth 20000
namespace Wd
theorem pow10T : ((Tryd.prog.globals[1]?).map (·.type)) = some 118 := by kernel_rfl
theorem pow10D : (Rows.laid_internal_strconv_uint64pow10 : DataW Unit) = Lib.tabData .u64 Lib.pow10Tab := by kernel_rfl
theorem gl_of {W : World} (h : laidMetH Tryd.prog Rows.textBackRow.laid W) : Gl W := by
  have h2 : laidMet Tryd.prog [("math/bits.deBruijn32tab", Rows.laid_math_bits_deBruijn32tab), ("math/bits.deBruijn64tab", Rows.laid_math_bits_deBruijn64tab), ("internal/strconv.uint64pow10", Rows.laid_internal_strconv_uint64pow10)] W := h
  have h3 := h2.tail.tail
  rw [pow10D] at h3
  exact Lib.tabIs_of_head gl_at pow10T Tryd.underlying118 Tryd.underlying108 (by kernel_rfl) (by kernel_rfl) h3
/-- a world in which they lie as the text lays them -/
def setTab (k : IntKind) (zs : List Int) : Obj → Obj
  | .cells _ t z => .cells (zs.map (Value.int k)).toArray t z
  | o => o
noncomputable def laidWorld (os : Os) : World :=
  { World.holding Tryd.prog os ⟨#[], #[], []⟩ with heap := (((World.holding Tryd.prog os ⟨#[], #[], []⟩).heap.modify 1 (setTab .u64 ([1, 10, 100, 1000, 10000, 100000, 1000000, 10000000, 100000000, 1000000000, 10000000000, 100000000000, 1000000000000, 10000000000000, 100000000000000, 1000000000000000, 10000000000000000, 100000000000000000, 1000000000000000000, 10000000000000000000] : List Int))).modify 2 (setTab .u8 ([0, 1, 28, 2, 29, 14, 24, 3, 30, 22, 20, 15, 25, 17, 4, 8, 31, 27, 13, 23, 21, 19, 16, 7, 26, 12, 18, 6, 11, 5, 10, 9] : List Int))).modify 3 (setTab .u8 ([0, 1, 56, 2, 57, 49, 28, 3, 61, 58, 42, 50, 38, 29, 17, 4, 62, 47, 59, 36, 45, 43, 51, 22, 53, 39, 33, 30, 24, 18, 12, 5, 63, 55, 48, 27, 60, 41, 37, 16, 46, 35, 44, 21, 52, 32, 23, 11, 54, 26, 40, 15, 34, 20, 31, 10, 25, 14, 19, 9, 13, 8, 7, 6] : List Int)) }
theorem laid_met (os : Os) (args : Array Value) : laidMet Tryd.prog Rows.textBackRow.laid ((laidWorld os).forCall (fun _ _ => 0) ⟨#[], args, []⟩).memory :=
  laidMet_of_run' 8 (by kernel_rfl) (by kernel_rfl)
end Wd
end Go.Proofs.YtkodnioheifalaaDoor
