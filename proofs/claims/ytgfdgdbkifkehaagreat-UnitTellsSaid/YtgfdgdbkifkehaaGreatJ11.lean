/- Texts joined: USH. -/
import Derived.Test.YtgfdgdbkifkehaaGreatJ6
import Derived.Test.YtgfdgdbkifkehaaGreatJ10
import Derived.SizedLaws
import Derived.ProofKit
import Derived.OpenShut
import Derived.Carry
/- What came in, as the form reads it, opened: a program, its rows not too long. -/
namespace Go.Proofs.YtgfdgdbkifkehaaGreat
open Go.ChangeShapes Go.WideShapes Go.ChangeAt Go.RowKit
set_option linter.unusedVariables false
set_option maxRecDepth 100000
namespace Wd
theorem laidOut : laidOutB Tryz.prog = true := by kernel_rfl
theorem cellsI9 : Tryz.prog.cellsOf 3 = 1 := by kernel_rfl
theorem cellsS9 : Tryz.prog.cellsOf 9 = 1 := by kernel_rfl
theorem cellsV9 : Tryz.prog.cellsOf 57 = 2 := by kernel_rfl
theorem cellsB9 : Tryz.prog.cellsOf 53 = 2 := by kernel_rfl
theorem cellsU9 : Tryz.prog.cellsOf 5 = 1 := by kernel_rfl
theorem cellsM9 : Tryz.prog.cellsOf 50 = 4 := by kernel_rfl
theorem cellsC9 : Tryz.prog.cellsOf 45 = 4 := by kernel_rfl
theorem cellsO9 : Tryz.prog.cellsOf 55 = 2 := by kernel_rfl
theorem cellsN9 : Tryz.prog.cellsOf 27 = 5 := by kernel_rfl
theorem cellsLV : Tryz.prog.cellsOf 47 = 1 := by kernel_rfl
theorem cellsLB : Tryz.prog.cellsOf 43 = 1 := by kernel_rfl
theorem cellsLU : Tryz.prog.cellsOf 48 = 1 := by kernel_rfl
theorem cellsLS : Tryz.prog.cellsOf 22 = 1 := by kernel_rfl
theorem cellsLC : Tryz.prog.cellsOf 23 = 1 := by kernel_rfl
theorem cellsLM : Tryz.prog.cellsOf 24 = 1 := by kernel_rfl
theorem cellsLO : Tryz.prog.cellsOf 25 = 1 := by kernel_rfl
theorem bytesV9 : Tryz.prog.bytesOf 57 = 16 := by kernel_rfl
theorem bytesB9 : Tryz.prog.bytesOf 53 = 16 := by kernel_rfl
theorem bytesU9 : Tryz.prog.bytesOf 5 = 1 := by kernel_rfl
theorem bytesI9 : Tryz.prog.bytesOf 3 = 8 := by kernel_rfl
theorem list2 {α : Type} (l : List α) (h : l.length = 2) : ∃ a b, l = [a, b] := by
  match l, h with
  | [a, b], _ => exact ⟨a, b, rfl⟩
theorem list4 {α : Type} (l : List α) (h : l.length = 4) : ∃ a b c d, l = [a, b, c, d] := by
  match l, h with
  | [a, b, c, d], _ => exact ⟨a, b, c, d, rfl⟩
theorem list5 {α : Type} (l : List α) (h : l.length = 5) : ∃ a b c d e, l = [a, b, c, d, e] := by
  match l, h with
  | [a, b, c, d, e], _ => exact ⟨a, b, c, d, e, rfl⟩
variable {H : Type} {enc : TypeId × Value → H} {W : World}
/-- none of its rows is too long -/
def Wok (t : TypeId) (d : DataW H) : Prop := ∀ x ∈ d.weights Tryz.prog t, x ≤ reachBytes
theorem weights_mem_all {t : TypeId} : ∀ {ds : List (DataW H)} {j : Nat} {d : DataW H}, ds[j]? = some d → ∀ n ∈ d.weights Tryz.prog t, n ∈ DataW.weightsAll Tryz.prog t ds
  | d0 :: ds, 0, d, hd, n, hn => by
    simp only [List.getElem?_cons_zero, Option.some.injEq] at hd
    subst hd
    simp only [DataW.weightsAll, List.mem_append]
    exact Or.inl hn
  | d0 :: ds, j + 1, d, hd, n, hn => by
    simp only [List.getElem?_cons_succ] at hd
    simp only [DataW.weightsAll, List.mem_append]
    exact Or.inr (weights_mem_all hd n hn)
  | [], _, _, hd, _, _ => by simp at hd
theorem Wok.part {t : TypeId} {fs : Array Field} {parts : List (DataW H)} (hu : Tryz.prog.underlying t = some (.struct fs)) (h : Wok t (.agg parts)) {j : Nat} {u : TypeId} {d : DataW H} (hj : (fs.toList.map (·.type))[j]? = some u) (hd : parts[j]? = some d) : Wok u d := fun x hx =>
  h x (by simp only [DataW.weights, hu]; exact DataW.weights_mem_each hj hd x hx)
/-- a row that came in, by its elements -/
theorem row_rd {T e : TypeId} {sz : Nat} (hu : Tryz.prog.underlying T = some (.slice e)) (hc : Tryz.prog.cellsOf e = sz) (h0 : 0 < sz) {n : Nat} {c : Value} {y : DataW H × List MemPlace} (h : DataW.trod enc Tryz.prog W 0 (fun _ => true) true n T [c] = some y) (hw : Wok T y.1) :
    ∃ ad len cap, c = .slice ad len cap ∧ len ≤ cap ∧ cap ≤ maxLen ∧ len * Tryz.prog.bytesOf e ≤ reachBytes ∧ ∀ k, k < len → ∃ (g off : Nat) (cs : List Value) (z : DataW H × List MemPlace) (n' : Nat), ad = some ⟨g, off, none⟩ ∧ cs.length = sz ∧ (∀ i, i < sz → W.cell? ⟨g, off + k * sz + i, none⟩ = cs[i]?) ∧ DataW.trod enc Tryz.prog W 0 (fun _ => true) true n' e cs = some z ∧ Wok e z.1 := by
  rcases DataW.trod_slice hu h with ⟨hcs, hx⟩ | ⟨a, len, cap, elems, rest, m, _, hcs, hx, hb, hl, hm, hlen, hel, _, _⟩
  · simp at hcs
    exact ⟨none, 0, 0, hcs, by omega, by decide, by omega, fun k hk => absurd hk (by omega)⟩
  · simp at hcs
    rw [hx] at hw
    have hsp : 0 < len → a.spot = none := fun hl0 => by
      obtain ⟨z, hz⟩ : ∃ z, elems[0]? = some z := ⟨elems[0]'(by omega), by simp⟩
      have hk1 := hel 0 hl0
      rw [hz, hc, Option.bind_eq_some_iff] at hk1
      obtain ⟨cs, hcc, ht⟩ := hk1
      obtain ⟨_, hcl, hce⟩ := World.cells?_some hcc
      obtain ⟨v0, hv0⟩ : ∃ v, cs[0]? = some v := ⟨cs[0]'(by omega), by simp⟩
      have hs := World.cell?_spot ((hce 0 h0).trans hv0)
      simpa [Addr.add] using hs
    refine ⟨some a, len, cap, hcs, hl, hm, ?_, fun k hk => ?_⟩
    · have := hw ((elems.length + rest.length) * Tryz.prog.bytesOf e) (by simp [DataW.weights, hu])
      have h2 : len * Tryz.prog.bytesOf e ≤ (elems.length + rest.length) * Tryz.prog.bytesOf e := Nat.mul_le_mul_right _ (by omega)
      omega
    · obtain ⟨z, hz⟩ : ∃ z, elems[k]? = some z := ⟨elems[k]'(by omega), by simp⟩
      have hk1 := hel k hk
      rw [hz, hc, Option.bind_eq_some_iff] at hk1
      obtain ⟨cs, hcc, ht⟩ := hk1
      obtain ⟨_, hcl, hce⟩ := World.cells?_some hcc
      obtain ⟨b, off, spot⟩ := a
      have hspot : spot = none := hsp (by omega)
      subst hspot
      refine ⟨b, off, cs, z, m, rfl, hcl, fun i hi => ?_, ht, fun x hx => hw x ?_⟩
      · have := hce i hi
        simpa only [Addr.add_lit] using this
      · simp only [DataW.weights, hu, List.mem_cons, List.mem_append]
        exact Or.inr (Or.inl (weights_mem_all (by rw [List.getElem?_map, hz]; rfl) x hx))
theorem vals_rd {n : Nat} {c : Value} {y : DataW H × List MemPlace} (h : DataW.trod enc Tryz.prog W 0 (fun _ => true) true n 47 [c] = some y) (hw : Wok 47 y.1) : ∃ B, PrV W c B ∧ B.length ≤ 8796093022208 := by
  obtain ⟨ad, len, cap, rfl, hl, hm, hb, hel⟩ := row_rd Tryz.underlying47 cellsV9 (by decide) h hw
  rw [bytesV9] at hb
  obtain ⟨B, hB1, hB2⟩ := pick_n (P := fun k (x : Int × Int) => In64 x.1 ∧ In64 x.2 ∧ ∃ g off, ad = some ⟨g, off, none⟩ ∧ W.cell? ⟨g, off + k * 2, none⟩ = some (.int .i64 x.1) ∧ W.cell? ⟨g, off + k * 2 + 1, none⟩ = some (.int .i64 x.2)) len (fun k hk => by
    obtain ⟨g, off, cs, z, m, e1, hcl, hce, ht, _⟩ := hel k hk
    obtain ⟨xs, n', _, _, _, hxl, hg⟩ := DataW.trod_struct Tryz.underlying57 ht
    obtain ⟨y0, y1, rfl⟩ := list2 xs hxl
    obtain ⟨c0, c1, rfl⟩ := list2 cs hcl
    have g0 : DataW.trod enc Tryz.prog W 0 (fun _ => true) true n' 3 (([c0, c1].drop 0).take (Tryz.prog.cellsOf 3)) = some y0 := hg 0 _ rfl
    have g1 : DataW.trod enc Tryz.prog W 0 (fun _ => true) true n' 3 (([c0, c1].drop 1).take (Tryz.prog.cellsOf 3)) = some y1 := hg 1 _ rfl
    rw [cellsI9] at g0 g1
    obtain ⟨x, e0, _, w0⟩ := DataW.trod_int Tryz.underlying3 g0
    obtain ⟨q, e2, _, w1⟩ := DataW.trod_int Tryz.underlying3 g1
    simp at e0 e2
    subst e0 e2
    exact ⟨(x, q), bounds_i64 w0, bounds_i64 w1, g, off, e1, hce 0 (by decide), hce 1 (by decide)⟩)
  subst hB1
  refine ⟨B, ⟨ad, cap, rfl, hl, hm, hB2⟩, ?_⟩
  simp only [reachBytes] at hb
  omega
theorem binds_rd {n : Nat} {c : Value} {y : DataW H × List MemPlace} (h : DataW.trod enc Tryz.prog W 0 (fun _ => true) true n 43 [c] = some y) (hw : Wok 43 y.1) : ∃ B, PrV W c B ∧ B.length ≤ 8796093022208 := by
  obtain ⟨ad, len, cap, rfl, hl, hm, hb, hel⟩ := row_rd Tryz.underlying43 cellsB9 (by decide) h hw
  rw [bytesB9] at hb
  obtain ⟨B, hB1, hB2⟩ := pick_n (P := fun k (x : Int × Int) => In64 x.1 ∧ In64 x.2 ∧ ∃ g off, ad = some ⟨g, off, none⟩ ∧ W.cell? ⟨g, off + k * 2, none⟩ = some (.int .i64 x.1) ∧ W.cell? ⟨g, off + k * 2 + 1, none⟩ = some (.int .i64 x.2)) len (fun k hk => by
    obtain ⟨g, off, cs, z, m, e1, hcl, hce, ht, _⟩ := hel k hk
    obtain ⟨xs, n', _, _, _, hxl, hg⟩ := DataW.trod_struct Tryz.underlying53 ht
    obtain ⟨y0, y1, rfl⟩ := list2 xs hxl
    obtain ⟨c0, c1, rfl⟩ := list2 cs hcl
    have g0 : DataW.trod enc Tryz.prog W 0 (fun _ => true) true n' 3 (([c0, c1].drop 0).take (Tryz.prog.cellsOf 3)) = some y0 := hg 0 _ rfl
    have g1 : DataW.trod enc Tryz.prog W 0 (fun _ => true) true n' 3 (([c0, c1].drop 1).take (Tryz.prog.cellsOf 3)) = some y1 := hg 1 _ rfl
    rw [cellsI9] at g0 g1
    obtain ⟨x, e0, _, w0⟩ := DataW.trod_int Tryz.underlying3 g0
    obtain ⟨q, e2, _, w1⟩ := DataW.trod_int Tryz.underlying3 g1
    simp at e0 e2
    subst e0 e2
    exact ⟨(x, q), bounds_i64 w0, bounds_i64 w1, g, off, e1, hce 0 (by decide), hce 1 (by decide)⟩)
  subst hB1
  refine ⟨B, ⟨ad, cap, rfl, hl, hm, hB2⟩, ?_⟩
  simp only [reachBytes] at hb
  omega
theorem bytes_rd {n : Nat} {c : Value} {y : DataW H × List MemPlace} (h : DataW.trod enc Tryz.prog W 0 (fun _ => true) true n 48 [c] = some y) (hw : Wok 48 y.1) : ∃ L, ByV W c L ∧ L.length ≤ 140737488355328 := by
  obtain ⟨ad, len, cap, rfl, hl, hm, hb, hel⟩ := row_rd Tryz.underlying48 cellsU9 (by decide) h hw
  rw [bytesU9] at hb
  obtain ⟨B, hB1, hB2⟩ := pick_n (P := fun k (x : Int) => (0 ≤ x ∧ x ≤ 255) ∧ ∃ g off, ad = some ⟨g, off, none⟩ ∧ W.cell? ⟨g, off + k, none⟩ = some (.int .u8 x)) len (fun k hk => by
    obtain ⟨g, off, cs, z, m, e1, hcl, hce, ht, _⟩ := hel k hk
    obtain ⟨x, e0, _, w0⟩ := DataW.trod_int Tryz.underlying5 ht
    subst e0
    exact ⟨x, bounds_u8 w0, g, off, e1, by have := hce 0 (by decide); simpa using this⟩)
  subst hB1
  refine ⟨B, ⟨ad, cap, rfl, hl, hm, hB2⟩, ?_⟩
  simp only [reachBytes] at hb
  omega
theorem str_size {z : DataW H × List MemPlace} {x : ByteArray} (hz : Wok 9 z.1) (ez : z = (.lit (.string x.data.toList), [])) : x.size ≤ 140737488355328 := by
  subst ez
  have h := hz x.data.toList.length (by simp [DataW.weights])
  simp only [reachBytes, Array.length_toList] at h
  have e : x.size = x.data.size := rfl
  omega
theorem strs_rd {n : Nat} {c : Value} {y : DataW H × List MemPlace} (h : DataW.trod enc Tryz.prog W 0 (fun _ => true) true n 22 [c] = some y) (hw : Wok 22 y.1) : ∃ L, NmV W c L ∧ ∀ x ∈ L, x.size ≤ 140737488355328 := by
  obtain ⟨ad, len, cap, rfl, hl, hm, hb, hel⟩ := row_rd Tryz.underlying22 cellsS9 (by decide) h hw
  obtain ⟨B, hB1, hB2⟩ := pick_n (P := fun k (x : ByteArray) => (∃ g off, ad = some ⟨g, off, none⟩ ∧ W.cell? ⟨g, off + k, none⟩ = some (.string x)) ∧ x.size ≤ 140737488355328) len (fun k hk => by
    obtain ⟨g, off, cs, z, m, e1, hcl, hce, ht, hz⟩ := hel k hk
    obtain ⟨x, e0, ez, w0⟩ := DataW.trod_string Tryz.underlying9 ht
    subst e0
    exact ⟨x, ⟨g, off, e1, by have := hce 0 (by decide); simpa using this⟩, str_size hz ez⟩)
  subst hB1
  exact ⟨B, ⟨ad, cap, rfl, hl, hm, fun k x hx => (hB2 k x hx).1⟩, fun x hx => by obtain ⟨k, hk⟩ := List.getElem?_of_mem hx; exact (hB2 k x hk).2⟩
theorem classes_rd {n : Nat} {c : Value} {y : DataW H × List MemPlace} (h : DataW.trod enc Tryz.prog W 0 (fun _ => true) true n 23 [c] = some y) (hw : Wok 23 y.1) : ∃ L, ClV W c L ∧ (∀ x ∈ L, x.binds.length ≤ 8796093022208) ∧ ∀ x ∈ L, x.nm.size ≤ 140737488355328 := by
  obtain ⟨ad, len, cap, rfl, hl, hm, hb, hel⟩ := row_rd Tryz.underlying23 cellsC9 (by decide) h hw
  obtain ⟨B, hB1, hB2⟩ := pick_n (P := fun k (c : ClassA) => (In64 c.super ∧ In64 c.fields ∧ ∃ g off bv, ad = some ⟨g, off, none⟩ ∧ W.cell? ⟨g, off + k * 4, none⟩ = some (.string c.nm) ∧ W.cell? ⟨g, off + k * 4 + 1, none⟩ = some (.int .i64 c.super) ∧ W.cell? ⟨g, off + k * 4 + 2, none⟩ = some (.int .i64 c.fields) ∧ W.cell? ⟨g, off + k * 4 + 3, none⟩ = some bv ∧ PrV W bv c.binds) ∧ c.binds.length ≤ 8796093022208 ∧ c.nm.size ≤ 140737488355328) len (fun k hk => by
    obtain ⟨g, off, cs, z, m, e1, hcl, hce, ht, hz⟩ := hel k hk
    obtain ⟨xs, n', _, rfl, _, hxl, hg⟩ := DataW.trod_struct Tryz.underlying45 ht
    obtain ⟨y0, y1, y2, y3, rfl⟩ := list4 xs hxl
    obtain ⟨c0, c1, c2, c3, rfl⟩ := list4 cs hcl
    have g0 : DataW.trod enc Tryz.prog W 0 (fun _ => true) true n' 9 (([c0, c1, c2, c3].drop 0).take (Tryz.prog.cellsOf 9)) = some y0 := hg 0 _ rfl
    have g1 : DataW.trod enc Tryz.prog W 0 (fun _ => true) true n' 3 (([c0, c1, c2, c3].drop 1).take (Tryz.prog.cellsOf 3)) = some y1 := hg 1 _ rfl
    have g2 : DataW.trod enc Tryz.prog W 0 (fun _ => true) true n' 3 (([c0, c1, c2, c3].drop 2).take (Tryz.prog.cellsOf 3)) = some y2 := hg 2 _ rfl
    have g3 : DataW.trod enc Tryz.prog W 0 (fun _ => true) true n' 43 (([c0, c1, c2, c3].drop 3).take (Tryz.prog.cellsOf 43)) = some y3 := hg 3 _ rfl
    rw [cellsS9] at g0
    rw [cellsI9] at g1 g2
    rw [cellsLB] at g3
    obtain ⟨x, q0, ez, _⟩ := DataW.trod_string Tryz.underlying9 g0
    have hzn := str_size (hz.part Tryz.underlying45 (j := 0) rfl rfl) ez
    obtain ⟨p, q1, _, w1⟩ := DataW.trod_int Tryz.underlying3 g1
    obtain ⟨q, q2, _, w2⟩ := DataW.trod_int Tryz.underlying3 g2
    simp at q0 q1 q2
    subst q0 q1 q2
    obtain ⟨L, hL, hLb⟩ := binds_rd (c := c3) (by simpa using g3) (hz.part Tryz.underlying45 (j := 3) rfl rfl)
    exact ⟨⟨x, p, q, L⟩, ⟨bounds_i64 w1, bounds_i64 w2, g, off, _, e1, hce 0 (by decide), hce 1 (by decide), hce 2 (by decide), hce 3 (by decide), hL⟩, hLb, hzn⟩)
  subst hB1
  refine ⟨B, ⟨ad, cap, rfl, hl, hm, fun k x hx => (hB2 k x hx).1⟩, fun x hx => ?_, fun x hx => ?_⟩
  · obtain ⟨k, hk⟩ := List.getElem?_of_mem hx
    exact (hB2 k x hk).2.1
  · obtain ⟨k, hk⟩ := List.getElem?_of_mem hx
    exact (hB2 k x hk).2.2
theorem methods_rd {n : Nat} {c : Value} {y : DataW H × List MemPlace} (h : DataW.trod enc Tryz.prog W 0 (fun _ => true) true n 24 [c] = some y) (hw : Wok 24 y.1) : ∃ L, MtV W c L ∧ ∀ x ∈ L, x.lits.length ≤ 8796093022208 ∧ x.code.length ≤ 140737488355328 := by
  obtain ⟨ad, len, cap, rfl, hl, hm, hb, hel⟩ := row_rd Tryz.underlying24 cellsM9 (by decide) h hw
  obtain ⟨B, hB1, hB2⟩ := pick_n (P := fun k (x : MethA) => (In64 x.args ∧ In64 x.temps ∧ ∃ g off lv cv, ad = some ⟨g, off, none⟩ ∧ W.cell? ⟨g, off + k * 4, none⟩ = some (.int .i64 x.args) ∧ W.cell? ⟨g, off + k * 4 + 1, none⟩ = some (.int .i64 x.temps) ∧ W.cell? ⟨g, off + k * 4 + 2, none⟩ = some lv ∧ W.cell? ⟨g, off + k * 4 + 3, none⟩ = some cv ∧ PrV W lv x.lits ∧ ByV W cv x.code) ∧ x.lits.length ≤ 8796093022208 ∧ x.code.length ≤ 140737488355328) len (fun k hk => by
    obtain ⟨g, off, cs, z, m, e1, hcl, hce, ht, hz⟩ := hel k hk
    obtain ⟨xs, n', _, rfl, _, hxl, hg⟩ := DataW.trod_struct Tryz.underlying50 ht
    obtain ⟨y0, y1, y2, y3, rfl⟩ := list4 xs hxl
    obtain ⟨c0, c1, c2, c3, rfl⟩ := list4 cs hcl
    have g0 : DataW.trod enc Tryz.prog W 0 (fun _ => true) true n' 3 (([c0, c1, c2, c3].drop 0).take (Tryz.prog.cellsOf 3)) = some y0 := hg 0 _ rfl
    have g1 : DataW.trod enc Tryz.prog W 0 (fun _ => true) true n' 3 (([c0, c1, c2, c3].drop 1).take (Tryz.prog.cellsOf 3)) = some y1 := hg 1 _ rfl
    have g2 : DataW.trod enc Tryz.prog W 0 (fun _ => true) true n' 47 (([c0, c1, c2, c3].drop 2).take (Tryz.prog.cellsOf 47)) = some y2 := hg 2 _ rfl
    have g3 : DataW.trod enc Tryz.prog W 0 (fun _ => true) true n' 48 (([c0, c1, c2, c3].drop 3).take (Tryz.prog.cellsOf 48)) = some y3 := hg 3 _ rfl
    rw [cellsI9] at g0 g1
    rw [cellsLV] at g2
    rw [cellsLU] at g3
    obtain ⟨p, q1, _, w1⟩ := DataW.trod_int Tryz.underlying3 g0
    obtain ⟨q, q2, _, w2⟩ := DataW.trod_int Tryz.underlying3 g1
    simp at q1 q2
    subst q1 q2
    obtain ⟨L, hL, hLb⟩ := vals_rd (c := c2) (by simpa using g2) (hz.part Tryz.underlying50 (j := 2) rfl rfl)
    obtain ⟨C, hC, hCb⟩ := bytes_rd (c := c3) (by simpa using g3) (hz.part Tryz.underlying50 (j := 3) rfl rfl)
    exact ⟨⟨p, q, L, C⟩, ⟨bounds_i64 w1, bounds_i64 w2, g, off, _, _, e1, hce 0 (by decide), hce 1 (by decide), hce 2 (by decide), hce 3 (by decide), hL, hC⟩, hLb, hCb⟩)
  subst hB1
  refine ⟨B, ⟨ad, cap, rfl, hl, hm, fun k x hx => (hB2 k x hx).1⟩, fun x hx => ?_⟩
  obtain ⟨k, hk⟩ := List.getElem?_of_mem hx
  exact (hB2 k x hk).2
theorem objects_rd {n : Nat} {c : Value} {y : DataW H × List MemPlace} (h : DataW.trod enc Tryz.prog W 0 (fun _ => true) true n 25 [c] = some y) (hw : Wok 25 y.1) : ∃ L, ObV W c L ∧ ∀ x ∈ L, x.flds.length ≤ 8796093022208 := by
  obtain ⟨ad, len, cap, rfl, hl, hm, hb, hel⟩ := row_rd Tryz.underlying25 cellsO9 (by decide) h hw
  obtain ⟨B, hB1, hB2⟩ := pick_n (P := fun k (x : ObjA) => (In64 x.cls ∧ ∃ g off fv, ad = some ⟨g, off, none⟩ ∧ W.cell? ⟨g, off + k * 2, none⟩ = some (.int .i64 x.cls) ∧ W.cell? ⟨g, off + k * 2 + 1, none⟩ = some fv ∧ PrV W fv x.flds) ∧ x.flds.length ≤ 8796093022208) len (fun k hk => by
    obtain ⟨g, off, cs, z, m, e1, hcl, hce, ht, hz⟩ := hel k hk
    obtain ⟨xs, n', _, rfl, _, hxl, hg⟩ := DataW.trod_struct Tryz.underlying55 ht
    obtain ⟨y0, y1, rfl⟩ := list2 xs hxl
    obtain ⟨c0, c1, rfl⟩ := list2 cs hcl
    have g0 : DataW.trod enc Tryz.prog W 0 (fun _ => true) true n' 3 (([c0, c1].drop 0).take (Tryz.prog.cellsOf 3)) = some y0 := hg 0 _ rfl
    have g1 : DataW.trod enc Tryz.prog W 0 (fun _ => true) true n' 47 (([c0, c1].drop 1).take (Tryz.prog.cellsOf 47)) = some y1 := hg 1 _ rfl
    rw [cellsI9] at g0
    rw [cellsLV] at g1
    obtain ⟨p, q1, _, w1⟩ := DataW.trod_int Tryz.underlying3 g0
    simp at q1
    subst q1
    obtain ⟨L, hL, hLb⟩ := vals_rd (c := c1) (by simpa using g1) (hz.part Tryz.underlying55 (j := 1) rfl rfl)
    exact ⟨⟨p, L⟩, ⟨bounds_i64 w1, g, off, _, e1, hce 0 (by decide), hce 1 (by decide), hL⟩, hLb⟩)
  subst hB1
  refine ⟨B, ⟨ad, cap, rfl, hl, hm, fun k x hx => (hB2 k x hx).1⟩, fun x hx => ?_⟩
  obtain ⟨k, hk⟩ := List.getElem?_of_mem hx
  exact (hB2 k x hk).2
/-- a program that came in -/
theorem unit_of {base : Nat} {v : Value} {d : DataW H} {p : List MemPlace} (hv : Value.okWide Tryz.prog W .any base 27 v) (h : DataW.Trod enc Tryz.prog W 0 (fun _ => true) true 27 v d p) (hw : Wok 27 d) : ∃ U, UnK W v U ∧ (∀ c ∈ U.classes, c.binds.length ≤ 8796093022208) ∧ (∀ m ∈ U.methods, m.lits.length ≤ 8796093022208 ∧ m.code.length ≤ 140737488355328) ∧ (∀ x ∈ U.objects, x.flds.length ≤ 8796093022208) ∧ (∀ x ∈ U.names, x.size ≤ 140737488355328) ∧ ∀ c ∈ U.classes, c.nm.size ≤ 140737488355328 := by
  obtain ⟨cs, rfl, hsz⟩ := okWide_struct Tryz.underlying27 hv
  rw [cellsN9] at hsz
  obtain ⟨l⟩ := cs
  obtain ⟨c0, c1, c2, c3, c4, rfl⟩ := list5 l hsz
  obtain ⟨fuel, hf⟩ := h
  obtain ⟨xs, n', _, ex, _, hxl, hg⟩ := DataW.trod_struct Tryz.underlying27 hf
  obtain ⟨y0, y1, y2, y3, y4, rfl⟩ := list5 xs hxl
  simp only [Prod.mk.injEq] at ex
  rw [ex.1] at hw
  have g0 : DataW.trod enc Tryz.prog W 0 (fun _ => true) true n' 22 (([c0, c1, c2, c3, c4].drop 0).take (Tryz.prog.cellsOf 22)) = some y0 := hg 0 _ rfl
  have g1 : DataW.trod enc Tryz.prog W 0 (fun _ => true) true n' 23 (([c0, c1, c2, c3, c4].drop 1).take (Tryz.prog.cellsOf 23)) = some y1 := hg 1 _ rfl
  have g2 : DataW.trod enc Tryz.prog W 0 (fun _ => true) true n' 24 (([c0, c1, c2, c3, c4].drop 2).take (Tryz.prog.cellsOf 24)) = some y2 := hg 2 _ rfl
  have g3 : DataW.trod enc Tryz.prog W 0 (fun _ => true) true n' 25 (([c0, c1, c2, c3, c4].drop 3).take (Tryz.prog.cellsOf 25)) = some y3 := hg 3 _ rfl
  have g4 : DataW.trod enc Tryz.prog W 0 (fun _ => true) true n' 3 (([c0, c1, c2, c3, c4].drop 4).take (Tryz.prog.cellsOf 3)) = some y4 := hg 4 _ rfl
  rw [cellsLS] at g0
  rw [cellsLC] at g1
  rw [cellsLM] at g2
  rw [cellsLO] at g3
  rw [cellsI9] at g4
  obtain ⟨N, hN, hNz⟩ := strs_rd (c := c0) (by simpa using g0) (hw.part Tryz.underlying27 (j := 0) rfl rfl)
  obtain ⟨C, hC, hCb, hCz⟩ := classes_rd (c := c1) (by simpa using g1) (hw.part Tryz.underlying27 (j := 1) rfl rfl)
  obtain ⟨M, hM, hMb⟩ := methods_rd (c := c2) (by simpa using g2) (hw.part Tryz.underlying27 (j := 2) rfl rfl)
  obtain ⟨O, hO, hOb⟩ := objects_rd (c := c3) (by simpa using g3) (hw.part Tryz.underlying27 (j := 3) rfl rfl)
  obtain ⟨x, q4, _, _⟩ := DataW.trod_int Tryz.underlying3 g4
  simp at q4
  subst q4
  exact ⟨⟨N, C, M, O, x⟩, (UnV.unk (U := ⟨N, C, M, O, x⟩) ⟨hN, hC, hM, hO⟩ : UnK W (.agg #[c0, c1, c2, c3, .int .i64 x]) ⟨N, C, M, O, x⟩), hCb, hMb, hOb, hNz, hCz⟩
/-- numbers that came in -/
theorem nums_raw {n : Nat} {c : Value} {y : DataW H × List MemPlace} (h : DataW.trod enc Tryz.prog W 0 (fun _ => true) true n 29 [c] = some y) : ∃ ad len cap, c = .slice ad len cap ∧ NumA W ad len := by
  rcases DataW.trod_slice Tryz.underlying29 h with ⟨hcs, hx⟩ | ⟨a, len, cap, elems, rest, m, _, hcs, hx, hb, hl, hm, hlen, hel, _, _⟩
  · simp at hcs
    exact ⟨none, 0, 0, hcs, fun k hk => absurd hk (by omega)⟩
  · simp at hcs
    have hsp : 0 < len → a.spot = none := fun h0 => by
      obtain ⟨z, hz⟩ : ∃ z, elems[0]? = some z := ⟨elems[0]'(by omega), by simp⟩
      have hk1 := hel 0 h0
      rw [hz, cellsI9, Option.bind_eq_some_iff] at hk1
      obtain ⟨cs, hc, ht⟩ := hk1
      obtain ⟨_, hcl, hcc⟩ := World.cells?_some hc
      obtain ⟨x, e0, _, w0⟩ := DataW.trod_int Tryz.underlying3 ht
      subst e0
      have hs := World.cell?_spot ((hcc 0 (by omega)).trans (show [Value.int IntKind.i64 x][0]? = some (.int .i64 x) from rfl))
      simpa [Addr.add] using hs
    refine ⟨some a, len, cap, hcs, fun k hk => ?_⟩
    obtain ⟨z, hz⟩ : ∃ z, elems[k]? = some z := ⟨elems[k]'(by omega), by simp⟩
    have hk1 := hel k hk
    rw [hz, cellsI9, Option.bind_eq_some_iff] at hk1
    obtain ⟨cs, hc, ht⟩ := hk1
    obtain ⟨_, hcl, hcc⟩ := World.cells?_some hc
    obtain ⟨x, e0, _, w0⟩ := DataW.trod_int Tryz.underlying3 ht
    subst e0
    have h0 := hcc 0 (by omega)
    obtain ⟨b, off, spot⟩ := a
    have hspot : spot = none := hsp (by omega)
    subst hspot
    simp only [Addr.add_lit, Nat.add_zero, Nat.mul_one] at h0
    exact ⟨b, off, x, rfl, bounds_i64 w0, h0⟩
theorem nums_of {base : Nat} {v : Value} {d : DataW H} {p : List MemPlace} (hv : Value.okWide Tryz.prog W .any base 29 v) (h : DataW.Trod enc Tryz.prog W 0 (fun _ => true) true 29 v d p) : ∃ ad len cap, v = .slice ad len cap ∧ NumA W ad len ∧ ((d = .nil ∧ len = 0) ∨ ∃ elems spare, d = .slice elems spare ∧ len ≤ elems.length) := by
  obtain ⟨a0, len, cap, rfl⟩ := okWide_slice Tryz.underlying29 hv
  obtain ⟨fuel, hf⟩ := h
  obtain ⟨ad, len', cap', e, hN⟩ := nums_raw (c := .slice a0 len cap) (by simpa [Value.cells] using hf)
  cases e
  refine ⟨_, _, _, rfl, hN, ?_⟩
  rcases DataW.trod_slice Tryz.underlying29 hf with ⟨hcs, hx⟩ | ⟨a, len', cap', elems, rest, n, _, hcs, hx, hb, hl, hm, hlen, hel, _, _⟩
  · simp [Value.cells] at hcs
    obtain ⟨rfl, rfl, rfl⟩ := hcs
    simp only [Prod.mk.injEq] at hx
    exact Or.inl ⟨hx.1, rfl⟩
  · simp [Value.cells] at hcs
    obtain ⟨rfl, rfl, rfl⟩ := hcs
    simp only [Prod.mk.injEq] at hx
    exact Or.inr ⟨_, _, hx.1, by simp; omega⟩
end Wd
end Go.Proofs.YtgfdgdbkifkehaaGreat
