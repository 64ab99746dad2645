/- An append of a row of whatever is read, none too. -/
import Derived.Test.YthlijmdohejheaaOLaw
namespace Go.Proofs.Ythlijmdohejheaa
open Go.RowKit
set_option linter.unusedVariables false
set_option maxRecDepth 20000
namespace Wd
/-- what an append reads: cells of m elements -/
def Rd (w : World) (u : Value) (m : Nat) (news : List Value) : Prop := (∃ c, u = .slice none 0 c ∧ m = 0 ∧ news = []) ∨ ∃ ad c, u = .slice (some ad) m c ∧ ∀ j x, news[j]? = some x → w.cell? (ad.add j) = some x
theorem Rd.up {w w1 : World} {u : Value} {m : Nat} {news : List Value} (h : Rd w u m news) (b : Below w.heap.size w w1) : Rd w1 u m news := by
  rcases h with h | ⟨ad, c, e, hc⟩
  · exact Or.inl h
  · exact Or.inr ⟨ad, c, e, fun j x hx => cell_up b (hc j x hx)⟩
theorem run_app_none {P : Program} (w : World) (base : Nat) (t ty e : TypeId) (i : TypeInfo) (size n c : Nat) (ht : P.underlying t = some (.slice e)) (hi : P.info? e = some i) (v : Value) (xs : List Value) (hown : w.ownsRow base e size v n xs) :
    (Builtin.append_ #[t, t] ty #[v, .slice none 0 c]).run P w = .ok v w := by
  rcases hown.2 with ⟨rfl, rfl⟩ | ⟨g, cap, cur, rfl, _, _, hle, _⟩
  · simp [Builtin.append_, run_underlying ht, sizeOf, typeInfo, hi, Builtin.lenOf, Builtin.firstCells]
  · simp [Builtin.append_, run_underlying ht, sizeOf, typeInfo, hi, Builtin.lenOf, Builtin.firstCells, hle, storeCells]
theorem run_app_any {P : Program} (w : World) (base : Nat) (t ty e : TypeId) (i : TypeInfo) (z : Value) (size bytes : Nat) (ht : P.underlying t = some (.slice e)) (hi : P.info? e = some i) (hz : i.zero = some z)
    (hsize : i.size = size) (hby : i.bytes = bytes) (hzs : z.cells.size = size) (hsz : 0 < size)
    (v u : Value) (n m : Nat) (xs news : List Value) (hown : w.ownsRow base e size v n xs) (hu : Rd w u m news) (hl : news.length = m * size) (h1 : ∀ u ∈ news, u.oneCell' = true)
    (h63 : n + m ≤ maxLen) (hbytes : (n + m) * bytes ≤ 140737488355328) (hbase : base ≤ w.heap.size) :
    ∃ v' w', (Builtin.append_ #[t, t] ty #[v, u]).run P w = .ok v' w' ∧ w'.ownsRow base e size v' (n + m) (xs ++ news) ∧ w.grownBy w' v.ownBlock ∧ (v'.ownBlock = v.ownBlock ∨ v'.ownBlock = some w.heap.size) := by
  rcases hu with ⟨c, rfl, rfl, rfl⟩ | ⟨ad, c, rfl, hc⟩
  · exact ⟨v, w, run_app_none w base t ty e i size n c ht hi v xs hown, by simpa using hown, grown_refl _ _, Or.inl rfl⟩
  · obtain ⟨v', w', hr, h2, h3, _, h5⟩ := run_append_own_at (P := P) w base t ty e i z size bytes ht hi hz hsize hby hzs hsz v n xs hown ad m c news hl hc h1 h63 hbytes hbase
    exact ⟨v', w', hr, h2, h3, h5⟩
theorem wpList_app_any {P : Program} {w : World} {ops : Array Oper} {rest : List Oper} {o : Oper} {a : Act} {Q : Exit → Act → World → Prop} (hgd : o.guard = none) (s x : Operand) (t : TypeId)
    (ho : o.op = .call { callee := .builtin .append, args := #[s, x], argTypes := #[t, t] })
    (base : Nat) (e : TypeId) (i : TypeInfo) (z : Value) (size bytes : Nat) (ht : P.underlying t = some (.slice e)) (hi : P.info? e = some i) (hz : i.zero = some z)
    (hsize : i.size = size) (hby : i.bytes = bytes) (hzs : z.cells.size = size) (hsz : 0 < size)
    (v u : Value) (n m : Nat) (xs news : List Value) (hs : a.eval s = v) (hx : a.eval x = u) (hown : w.ownsRow base e size v n xs) (hu : Rd w u m news) (hl : news.length = m * size) (h1 : ∀ u ∈ news, u.oneCell' = true)
    (h63 : n + m ≤ maxLen) (hbytes : (n + m) * bytes ≤ 140737488355328) (hbase : base ≤ w.heap.size)
    (h : ∀ v' w', w'.ownsRow base e size v' (n + m) (xs ++ news) → w.grownBy w' v.ownBlock → (v'.ownBlock = v.ownBlock ∨ v'.ownBlock = some w.heap.size) → wpList P ops Q rest (a.put o.dst v') w') : wpList P ops Q (o :: rest) a w := by
  refine wpList_plain hgd fun K hK => ?_
  obtain ⟨v', w', hr, h2, h3, h5⟩ := run_app_any (P := P) w base t o.type e i z size bytes ht hi hz hsize hby hzs hsz v u n m xs news hown hu hl h1 h63 hbytes hbase
  unfold Oper.wp execOp
  simp only [ho, resolve, invoke, builtin, Sem.run_bind, Sem.run_pure, Result.andThen_ok, List.map_toArray, List.map_cons, List.map_nil, hs, hx, hr]
  exact hK _ _ (h v' w' h2 h3 h5)
/-- an append's new value lies in the old row, or in a new one -/
theorem ob_at {v v' : Value} {H : Nat} (h : v'.ownBlock = v.ownBlock ∨ v'.ownBlock = some H) : ∀ k, v'.ownBlock = some k → v.ownBlock = some k ∨ k = H := by
  intro k hk
  rcases h with e | e
  · exact Or.inl (by rw [← e]; exact hk)
  · rw [e] at hk; exact Or.inr (Option.some.inj hk).symm
theorem PrV.cells {w : World} {ad : Option Addr} {n cap : Nat} {L : List (Int × Int)} (h : PrV w (.slice ad n cap) L) : ∀ k u, (pr2 L)[k]? = some u → ∃ g off, ad = some ⟨g, off, none⟩ ∧ w.cell? ⟨g, off + k, none⟩ = some u := by
  intro k u hk
  obtain ⟨q, r, hr, rfl⟩ : ∃ q r, r < 2 ∧ k = q * 2 + r := ⟨k / 2, k % 2, by omega, by omega⟩
  have hq : q < L.length := by have := (List.getElem?_eq_some_iff.1 hk).1; rw [pr2_len] at this; omega
  obtain ⟨x, hx⟩ : ∃ x, L[q]? = some x := ⟨L[q], by simp⟩
  obtain ⟨_, _, g, off, e, c0, c1⟩ := h.at hx
  obtain ⟨p0, p1⟩ := pr2_get L q x hx
  refine ⟨g, off, e, ?_⟩
  rcases (show r = 0 ∨ r = 1 by omega) with rfl | rfl
  · rw [Nat.add_zero] at hk ⊢
    rw [p0] at hk; cases hk
    exact c0
  · rw [p1] at hk; cases hk
    exact c1
theorem PrV.rd {w : World} {v : Value} {L : List (Int × Int)} (h : PrV w v L) : Rd w v L.length (pr2 L) := by
  obtain ⟨ad, cap, rfl, hc, hm⟩ := h.form
  have hcell := h.cells
  cases ad with
  | none =>
    left
    have hz : L.length = 0 := by
      cases L with
      | nil => rfl
      | cons x X =>
        obtain ⟨g, off, e, _⟩ := hcell 0 (.int .i64 x.1) (by simp [pr2])
        cases e
    exact ⟨cap, by rw [hz], hz, by rw [List.length_eq_zero_iff.1 hz]; rfl⟩
  | some ad =>
    right
    refine ⟨ad, cap, rfl, fun j x hx => ?_⟩
    obtain ⟨g, off, e, hc⟩ := hcell j x hx
    cases e
    rw [Addr.add_lit]
    exact hc
theorem PrV.b64 {w : World} {v : Value} {L : List (Int × Int)} (h : PrV w v L) : ∀ x ∈ L, In64 x.1 ∧ In64 x.2 := by
  intro x hx
  obtain ⟨ad, cap, rfl, _⟩ := h.form
  obtain ⟨k, hk⟩ := List.getElem?_of_mem hx
  obtain ⟨a, b, _⟩ := h.at hk
  exact ⟨a, b⟩
theorem PrV.nil (w : World) : PrV w (.slice none 0 0) [] := ⟨none, 0, rfl, by simp, by decide, fun k x hx => by simp at hx⟩
theorem ByV.nil (w : World) : ByV w (.slice none 0 0) [] := ⟨none, 0, rfl, by simp, by decide, fun k x hx => by simp at hx⟩
theorem ByV.rd {w : World} {v : Value} {L : List Int} (h : ByV w v L) : Rd w v L.length (bys L) := by
  obtain ⟨ad, cap, rfl, hc, hm⟩ := h.form
  cases ad with
  | none =>
    left
    have hz : L = [] := by
      cases L with
      | nil => rfl
      | cons x X =>
        obtain ⟨_, g, off, e, _⟩ := h.at (k := 0) (x := x) rfl
        cases e
    subst hz
    exact ⟨cap, rfl, rfl, rfl⟩
  | some ad =>
    right
    refine ⟨ad, cap, rfl, fun j x hx => ?_⟩
    obtain ⟨y, hy, rfl⟩ : ∃ y, L[j]? = some y ∧ .int .u8 y = x := by simpa [bys] using hx
    obtain ⟨_, g, off, e, c0⟩ := h.at hy
    cases e
    rw [Addr.add_lit]
    exact c0
theorem ByV.b8 {w : World} {v : Value} {L : List Int} (h : ByV w v L) : ∀ x ∈ L, 0 ≤ x ∧ x ≤ 255 := by
  intro x hx
  obtain ⟨ad, cap, rfl, _⟩ := h.form
  obtain ⟨k, hk⟩ := List.getElem?_of_mem hx
  exact (h.at hk).1
theorem MeV.of {w : World} {la ca : Option Addr} {nl lc nb cc : Nat} {a t : Int} {L : List (Int × Int)} {C : List Int} (hl : PrV w (.slice la nl lc) L) (hc : ByV w (.slice ca nb cc) C) (ha : In64 a) (ht : In64 t) : MeV w (.agg #[.int .i64 a, .int .i64 t, .slice la nl lc, .slice ca nb cc]) ⟨a, t, L, C⟩ := by
  obtain ⟨_, _, e, _⟩ := hl.ex
  obtain ⟨_, _, e2, _⟩ := hc.ex
  cases e; cases e2
  exact ⟨⟨la, lc, ca, cc, rfl, hl, hc⟩, ha, ht⟩
def U0 : UnitA := ⟨[], [], [], [], 0⟩
theorem UnK.zero (w : World) : UnK w (.agg #[.slice none 0 0, .slice none 0 0, .slice none 0 0, .slice none 0 0, .int .i64 0]) U0 :=
  ⟨none, 0, none, 0, none, 0, none, 0, rfl, ⟨⟨none, 0, rfl, by simp [U0], by decide, fun k x hx => by simp [U0] at hx⟩, ⟨none, 0, rfl, by simp [U0], by decide, fun k x hx => by simp [U0] at hx⟩, ⟨none, 0, rfl, by simp [U0], by decide, fun k x hx => by simp [U0] at hx⟩, ⟨none, 0, rfl, by simp [U0], by decide, fun k x hx => by simp [U0] at hx⟩⟩⟩
theorem MeV.zero (w : World) (a : Int) (ha : In64 a) : MeV w (.agg #[.int .i64 a, .int .i64 0, .slice none 0 0, .slice none 0 0]) ⟨a, 0, [], []⟩ := MeV.of (PrV.nil w) (ByV.nil w) ha (in64_of (by omega) (by omega))
theorem UnV.k {w : World} {nv cv mv ov : Value} {U : UnitA} (h : UnV w nv cv mv ov U) (hm : U.main = 6) : UnK w (.agg #[nv, cv, mv, ov, .int .i64 6]) U := by
  obtain ⟨na, nc, rfl, _⟩ := h.n.ex
  obtain ⟨ca, cc, rfl, _⟩ := h.c.ex
  obtain ⟨ma, mc, rfl, _⟩ := h.m.ex
  obtain ⟨oa, oc, rfl, _⟩ := h.o.ex
  exact ⟨⟨na, nc, ca, cc, ma, mc, oa, oc, by rw [hm], h⟩⟩
/-- an empty row -/
theorem made_none (w : World) (T : TypeId) (sz base : Nat) (hb : base ≤ w.heap.size) : (w.alloc (.cells #[] T)).ownsRow base T sz (.slice (some ⟨w.heap.size, 0, none⟩) 0 0) 0 [] := World.ownsRow_made w #[] 0 hb (by decide) (by simp)
end Wd
end Go.Proofs.Ythlijmdohejheaa
