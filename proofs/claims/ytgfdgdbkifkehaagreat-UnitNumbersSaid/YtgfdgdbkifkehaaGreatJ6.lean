/- Texts joined: UCW, UOV. -/
import Derived.Test.YtgfdgdbkifkehaaGreatJ1
import Derived.Test.YtgfdgdbkifkehaaGreatJ5
/- A program after stores of values of the same kinds: some program still; new memory stays new. -/
namespace Go.Proofs.YtgfdgdbkifkehaaGreat
open Go.RowKit
set_option linter.unusedVariables false
set_option maxRecDepth 20000
namespace Wd
theorem pick_n {α : Type} {P : Nat → α → Prop} : ∀ n : Nat, (∀ k, k < n → ∃ x, P k x) → ∃ L : List α, L.length = n ∧ ∀ (k : Nat) x, L[k]? = some x → P k x
  | 0, _ => ⟨[], rfl, fun k x h => by simp at h⟩
  | n + 1, h => by
    obtain ⟨L, hl, hp⟩ := pick_n n (fun k hk => h k (by omega))
    obtain ⟨x, hx⟩ := h n (by omega)
    refine ⟨L ++ [x], by simp [hl], fun k y hy => ?_⟩
    by_cases hk : k < n
    · rw [List.getElem?_append_left (by omega)] at hy
      exact hp k y hy
    · have hkl := (List.getElem?_eq_some_iff.1 hy).1
      rw [List.length_append, List.length_singleton] at hkl
      obtain rfl : k = n := by omega
      rw [List.getElem?_append_right (by omega), hl, Nat.sub_self] at hy
      obtain rfl : x = y := by simpa using hy
      exact hx
/-- one kind of value -/
def Alk (v v' : Value) : Prop := v' = v ∨ (∃ x y, v = .int .i64 x ∧ v' = .int .i64 y ∧ In64 y) ∨ (∃ x y, v = .int .u8 x ∧ v' = .int .u8 y ∧ 0 ≤ y ∧ y ≤ 255) ∨ ∃ s t, v = .string s ∧ v' = .string t
theorem Alk.trans {a b c : Value} (h : Alk a b) (k : Alk b c) : Alk a c := by
  rcases h with rfl | ⟨x, y, rfl, rfl, h⟩ | ⟨x, y, rfl, rfl, h⟩ | ⟨s, t, rfl, rfl⟩
  · exact k
  · rcases k with rfl | ⟨x', y', e, rfl, h'⟩ | ⟨x', y', e, rfl, h'⟩ | ⟨s, t, e, rfl⟩
    · exact Or.inr (Or.inl ⟨x, y, rfl, rfl, h⟩)
    · exact Or.inr (Or.inl ⟨x, y', rfl, rfl, h'⟩)
    · cases e
    · cases e
  · rcases k with rfl | ⟨x', y', e, rfl, h'⟩ | ⟨x', y', e, rfl, h'⟩ | ⟨s, t, e, rfl⟩
    · exact Or.inr (Or.inr (Or.inl ⟨x, y, rfl, rfl, h⟩))
    · cases e
    · exact Or.inr (Or.inr (Or.inl ⟨x, y', rfl, rfl, h'⟩))
    · cases e
  · rcases k with rfl | ⟨x', y', e, rfl, h'⟩ | ⟨x', y', e, rfl, h'⟩ | ⟨s', t', e, rfl⟩
    · exact Or.inr (Or.inr (Or.inr ⟨s, t, rfl, rfl⟩))
    · cases e
    · cases e
    · exact Or.inr (Or.inr (Or.inr ⟨s, t', rfl, rfl⟩))
/-- each cell that was there has a value of its kind -/
structure SK (w w' : World) : Prop where
  cell : ∀ b v, w.cell? b = some v → ∃ v', w'.cell? b = some v' ∧ Alk v v'
  fz : ∀ b, w'.frozen? b = w.frozen? b
section
variable {w w1 w2 : World}
theorem SK.refl (w : World) : SK w w := ⟨fun b v h => ⟨v, h, Or.inl rfl⟩, fun _ => rfl⟩
theorem SK.trans (h : SK w w1) (k : SK w1 w2) : SK w w2 :=
  ⟨fun b v hb => by
    obtain ⟨v1, c1, a1⟩ := h.cell b v hb
    obtain ⟨v2, c2, a2⟩ := k.cell b v1 c1
    exact ⟨v2, c2, a1.trans a2⟩, fun b => (k.fz b).trans (h.fz b)⟩
theorem SK.set {a : Addr} {u x : Value} (ha : w.cell? a = some u) (hx : Alk u x) : SK w (w.setCell a x) :=
  ⟨fun b v hb => by
    by_cases e : a = b
    · subst e
      rw [ha] at hb
      cases hb
      exact ⟨x, World.cell?_setCell_same _ _ _ ha, hx⟩
    · exact ⟨v, (World.cell?_setCell_other _ _ _ _ e).trans hb, Or.inl rfl⟩, fun b => World.frozen?_setCell _ _ _ _⟩
theorem SK.drew (h : SK w w1) : SK w w1.drew := ⟨h.cell, h.fz⟩
theorem SK.keep (h : SK w w1) (b : Below w1.heap.size w1 w2) (hf : ∀ p, w2.frozen? p = w1.frozen? p) : SK w w2 :=
  ⟨fun p v hp => by
    obtain ⟨v', c, a⟩ := h.cell p v hp
    exact ⟨v', cell_up b c, a⟩, fun p => (hf p).trans (h.fz p)⟩
theorem SK.int (h : SK w w1) {b : Addr} {x : Int} (hb : w.cell? b = some (.int .i64 x)) (hx : In64 x) : ∃ y, In64 y ∧ w1.cell? b = some (.int .i64 y) := by
  obtain ⟨v', c, a⟩ := h.cell _ _ hb
  rcases a with rfl | ⟨_, y, _, rfl, hy⟩ | ⟨_, _, e, _⟩ | ⟨_, _, e, _⟩
  · exact ⟨x, hx, c⟩
  · exact ⟨y, hy, c⟩
  · cases e
  · cases e
theorem SK.byte (h : SK w w1) {b : Addr} {x : Int} (hb : w.cell? b = some (.int .u8 x)) (hx : 0 ≤ x ∧ x ≤ 255) : ∃ y, (0 ≤ y ∧ y ≤ 255) ∧ w1.cell? b = some (.int .u8 y) := by
  obtain ⟨v', c, a⟩ := h.cell _ _ hb
  rcases a with rfl | ⟨_, _, e, _⟩ | ⟨_, y, _, rfl, hy⟩ | ⟨_, _, e, _⟩
  · exact ⟨x, hx, c⟩
  · cases e
  · exact ⟨y, hy, c⟩
  · cases e
theorem SK.str (h : SK w w1) {b : Addr} {x : ByteArray} (hb : w.cell? b = some (.string x)) : ∃ y, w1.cell? b = some (.string y) := by
  obtain ⟨v', c, a⟩ := h.cell _ _ hb
  rcases a with rfl | ⟨_, _, e, _⟩ | ⟨_, _, e, _⟩ | ⟨_, t, _, rfl⟩
  · exact ⟨x, c⟩
  · cases e
  · cases e
  · exact ⟨t, c⟩
theorem SK.sl (h : SK w w1) {b : Addr} {ad : Option Addr} {n c : Nat} (hb : w.cell? b = some (.slice ad n c)) : w1.cell? b = some (.slice ad n c) := by
  obtain ⟨v', c', a⟩ := h.cell _ _ hb
  rcases a with rfl | ⟨_, _, e, _⟩ | ⟨_, _, e, _⟩ | ⟨_, _, e, _⟩
  · exact c'
  · cases e
  · cases e
  · cases e
theorem PrV.sk {v : Value} {L : List (Int × Int)} (h : PrV w v L) (s : SK w w1) : ∃ L', L'.length = L.length ∧ PrV w1 v L' := by
  obtain ⟨ad, cap, rfl, h1, h2, h3⟩ := h.ex
  obtain ⟨L', hl, hp⟩ := pick_n (P := fun k (x : Int × Int) => In64 x.1 ∧ In64 x.2 ∧ ∃ g off, ad = some ⟨g, off, none⟩ ∧ w1.cell? ⟨g, off + k * 2, none⟩ = some (.int .i64 x.1) ∧ w1.cell? ⟨g, off + k * 2 + 1, none⟩ = some (.int .i64 x.2)) L.length (fun k hk => by
    obtain ⟨x, hx⟩ : ∃ x, L[k]? = some x := ⟨L[k], by simp⟩
    obtain ⟨i1, i2, g, off, e, c0, c1⟩ := h3 k x hx
    obtain ⟨y1, j1, d0⟩ := s.int c0 i1
    obtain ⟨y2, j2, d1⟩ := s.int c1 i2
    exact ⟨(y1, y2), j1, j2, g, off, e, d0, d1⟩)
  exact ⟨L', hl, ⟨ad, cap, by rw [hl], by omega, h2, hp⟩⟩
theorem ByV.sk {v : Value} {L : List Int} (h : ByV w v L) (s : SK w w1) : ∃ L', L'.length = L.length ∧ ByV w1 v L' := by
  obtain ⟨ad, cap, rfl, h1, h2, h3⟩ := h.ex
  obtain ⟨L', hl, hp⟩ := pick_n (P := fun k (x : Int) => (0 ≤ x ∧ x ≤ 255) ∧ ∃ g off, ad = some ⟨g, off, none⟩ ∧ w1.cell? ⟨g, off + k, none⟩ = some (.int .u8 x)) L.length (fun k hk => by
    obtain ⟨x, hx⟩ : ∃ x, L[k]? = some x := ⟨L[k], by simp⟩
    obtain ⟨i1, g, off, e, c0⟩ := h3 k x hx
    obtain ⟨y1, j1, d0⟩ := s.byte c0 i1
    exact ⟨y1, j1, g, off, e, d0⟩)
  exact ⟨L', hl, ⟨ad, cap, by rw [hl], by omega, h2, hp⟩⟩
theorem NmV.sk {v : Value} {L : List ByteArray} (h : NmV w v L) (s : SK w w1) : ∃ L', L'.length = L.length ∧ NmV w1 v L' := by
  obtain ⟨ad, cap, rfl, h1, h2, h3⟩ := h.ex
  obtain ⟨L', hl, hp⟩ := pick_n (P := fun k (x : ByteArray) => ∃ g off, ad = some ⟨g, off, none⟩ ∧ w1.cell? ⟨g, off + k, none⟩ = some (.string x)) L.length (fun k hk => by
    obtain ⟨x, hx⟩ : ∃ x, L[k]? = some x := ⟨L[k], by simp⟩
    obtain ⟨g, off, e, c0⟩ := h3 k x hx
    obtain ⟨y1, d0⟩ := s.str c0
    exact ⟨y1, g, off, e, d0⟩)
  exact ⟨L', hl, ⟨ad, cap, by rw [hl], by omega, h2, hp⟩⟩
theorem ClV.sk {v : Value} {L : List ClassA} (h : ClV w v L) (s : SK w w1) : ∃ L', L'.length = L.length ∧ ClV w1 v L' := by
  obtain ⟨ad, cap, rfl, h1, h2, h3⟩ := h.ex
  obtain ⟨L', hl, hp⟩ := pick_n (P := fun k (c : ClassA) => In64 c.super ∧ In64 c.fields ∧ ∃ g off bv, ad = some ⟨g, off, none⟩ ∧ w1.cell? ⟨g, off + k * 4, none⟩ = some (.string c.nm) ∧ w1.cell? ⟨g, off + k * 4 + 1, none⟩ = some (.int .i64 c.super) ∧ w1.cell? ⟨g, off + k * 4 + 2, none⟩ = some (.int .i64 c.fields) ∧ w1.cell? ⟨g, off + k * 4 + 3, none⟩ = some bv ∧ PrV w1 bv c.binds) L.length (fun k hk => by
    obtain ⟨x, hx⟩ : ∃ x, L[k]? = some x := ⟨L[k], by simp⟩
    obtain ⟨i1, i2, g, off, bv, e, c0, c1, c2, c3, hb⟩ := h3 k x hx
    obtain ⟨y0, d0⟩ := s.str c0
    obtain ⟨y1, j1, d1⟩ := s.int c1 i1
    obtain ⟨y2, j2, d2⟩ := s.int c2 i2
    obtain ⟨B', _, hB⟩ := hb.sk s
    obtain ⟨ba, bc, rfl, _⟩ := hb.ex
    exact ⟨⟨y0, y1, y2, B'⟩, j1, j2, g, off, _, e, d0, d1, d2, s.sl c3, hB⟩)
  exact ⟨L', hl, ⟨ad, cap, by rw [hl], by omega, h2, hp⟩⟩
theorem MtV.sk {v : Value} {L : List MethA} (h : MtV w v L) (s : SK w w1) : ∃ L', L'.length = L.length ∧ MtV w1 v L' := by
  obtain ⟨ad, cap, rfl, h1, h2, h3⟩ := h.ex
  obtain ⟨L', hl, hp⟩ := pick_n (P := fun k (x : MethA) => In64 x.args ∧ In64 x.temps ∧ ∃ g off lv cv, ad = some ⟨g, off, none⟩ ∧ w1.cell? ⟨g, off + k * 4, none⟩ = some (.int .i64 x.args) ∧ w1.cell? ⟨g, off + k * 4 + 1, none⟩ = some (.int .i64 x.temps) ∧ w1.cell? ⟨g, off + k * 4 + 2, none⟩ = some lv ∧ w1.cell? ⟨g, off + k * 4 + 3, none⟩ = some cv ∧ PrV w1 lv x.lits ∧ ByV w1 cv x.code) L.length (fun k hk => by
    obtain ⟨x, hx⟩ : ∃ x, L[k]? = some x := ⟨L[k], by simp⟩
    obtain ⟨i1, i2, g, off, lv, cv, e, c0, c1, c2, c3, hb, hc⟩ := h3 k x hx
    obtain ⟨y1, j1, d1⟩ := s.int c0 i1
    obtain ⟨y2, j2, d2⟩ := s.int c1 i2
    obtain ⟨B', _, hB⟩ := hb.sk s
    obtain ⟨C', _, hC⟩ := hc.sk s
    obtain ⟨ba, bc, rfl, _⟩ := hb.ex
    obtain ⟨ca, cc, rfl, _⟩ := hc.ex
    exact ⟨⟨y1, y2, B', C'⟩, j1, j2, g, off, _, _, e, d1, d2, s.sl c2, s.sl c3, hB, hC⟩)
  exact ⟨L', hl, ⟨ad, cap, by rw [hl], by omega, h2, hp⟩⟩
theorem ObV.sk {v : Value} {L : List ObjA} (h : ObV w v L) (s : SK w w1) : ∃ L', L'.length = L.length ∧ ObV w1 v L' := by
  obtain ⟨ad, cap, rfl, h1, h2, h3⟩ := h.ex
  obtain ⟨L', hl, hp⟩ := pick_n (P := fun k (x : ObjA) => In64 x.cls ∧ ∃ g off fv, ad = some ⟨g, off, none⟩ ∧ w1.cell? ⟨g, off + k * 2, none⟩ = some (.int .i64 x.cls) ∧ w1.cell? ⟨g, off + k * 2 + 1, none⟩ = some fv ∧ PrV w1 fv x.flds) L.length (fun k hk => by
    obtain ⟨x, hx⟩ : ∃ x, L[k]? = some x := ⟨L[k], by simp⟩
    obtain ⟨i1, g, off, fv, e, c0, c1, hb⟩ := h3 k x hx
    obtain ⟨y1, j1, d1⟩ := s.int c0 i1
    obtain ⟨B', _, hB⟩ := hb.sk s
    obtain ⟨ba, bc, rfl, _⟩ := hb.ex
    exact ⟨⟨y1, B'⟩, j1, g, off, _, e, d1, s.sl c1, hB⟩)
  exact ⟨L', hl, ⟨ad, cap, by rw [hl], by omega, h2, hp⟩⟩
/-- some program still, of as many names, classes, methods, objects -/
theorem UnV.sk {nv cv mv ov : Value} {U : UnitA} (h : UnV w nv cv mv ov U) (s : SK w w1) : ∃ V, UnV w1 nv cv mv ov V ∧ V.main = U.main ∧ V.names.length = U.names.length ∧ V.classes.length = U.classes.length ∧ V.methods.length = U.methods.length ∧ V.objects.length = U.objects.length := by
  obtain ⟨N, n1, n2⟩ := h.n.sk s
  obtain ⟨C, c1, c2⟩ := h.c.sk s
  obtain ⟨M, m1, m2⟩ := h.m.sk s
  obtain ⟨O, o1, o2⟩ := h.o.sk s
  exact ⟨⟨N, C, M, O, U.main⟩, ⟨n2, c2, m2, o2⟩, rfl, n1, c1, m1, o1⟩
end
end Wd
end Go.Proofs.YtgfdgdbkifkehaaGreat

/- Turning a program: a row inside it that grows. -/
namespace Go.Proofs.YtgfdgdbkifkehaaGreat
open Go.RowKit
set_option linter.unusedVariables false
set_option maxRecDepth 20000
namespace Wd
theorem bys_app (A B : List Int) : bys (A ++ B) = bys A ++ bys B := by simp [bys]
theorem bys_len (L : List Int) : (bys L).length = L.length := by simp [bys]
theorem umask15 (n : Int) : bits .and .i64 n 15 = n % 16 := by
  have h127 : (BitVec.ofInt 64 15).toNat = 2 ^ 4 - 1 := by decide
  have key : (BitVec.ofInt 64 n &&& BitVec.ofInt 64 15).toNat = (n % ((2 ^ 64 : Nat) : Int)).toNat % 2 ^ 4 := by
    rw [BitVec.toNat_and, BitVec.toNat_ofInt, h127, Nat.and_two_pow_sub_one_eq_mod]
  show IntKind.i64.wrap ((BitVec.ofInt 64 n &&& BitVec.ofInt 64 15).toNat : Nat) = n % 16
  rw [key, IntKind.wrap_i64]
  omega
theorem umask7 (n : Int) : bits .and .i64 n 7 = n % 8 := by
  have h127 : (BitVec.ofInt 64 7).toNat = 2 ^ 3 - 1 := by decide
  have key : (BitVec.ofInt 64 n &&& BitVec.ofInt 64 7).toNat = (n % ((2 ^ 64 : Nat) : Int)).toNat % 2 ^ 3 := by
    rw [BitVec.toNat_and, BitVec.toNat_ofInt, h127, Nat.and_two_pow_sub_one_eq_mod]
  show IntKind.i64.wrap ((BitVec.ofInt 64 n &&& BitVec.ofInt 64 7).toNat : Nat) = n % 8
  rw [key, IntKind.wrap_i64]
  omega
theorem umask3 (n : Int) : bits .and .i64 n 3 = n % 4 := by
  have h127 : (BitVec.ofInt 64 3).toNat = 2 ^ 2 - 1 := by decide
  have key : (BitVec.ofInt 64 n &&& BitVec.ofInt 64 3).toNat = (n % ((2 ^ 64 : Nat) : Int)).toNat % 2 ^ 2 := by
    rw [BitVec.toNat_and, BitVec.toNat_ofInt, h127, Nat.and_two_pow_sub_one_eq_mod]
  show IntKind.i64.wrap ((BitVec.ofInt 64 n &&& BitVec.ofInt 64 3).toNat : Nat) = n % 4
  rw [key, IntKind.wrap_i64]
  omega
theorem umask1 (n : Int) : bits .and .i64 n 1 = n % 2 := by
  have h127 : (BitVec.ofInt 64 1).toNat = 2 ^ 1 - 1 := by decide
  have key : (BitVec.ofInt 64 n &&& BitVec.ofInt 64 1).toNat = (n % ((2 ^ 64 : Nat) : Int)).toNat % 2 ^ 1 := by
    rw [BitVec.toNat_and, BitVec.toNat_ofInt, h127, Nat.and_two_pow_sub_one_eq_mod]
  show IntKind.i64.wrap ((BitVec.ofInt 64 n &&& BitVec.ofInt 64 1).toNat : Nat) = n % 2
  rw [key, IntKind.wrap_i64]
  omega
def ulenAt (v : Option Value) : Nat := match v with | some (.slice _ n _) => n | _ => 0
theorem rd_obj (w : World) (x : Int) (a : Option Addr) (n c : Nat) (t : TypeId) (L : List (Int × Int)) : ∀ j u, (ob2s [((⟨x, L⟩ : ObjA), Value.slice a n c)])[j]? = some u → (w.alloc (.cells #[.int .i64 x, .slice a n c] t)).cell? ((⟨w.heap.size, 0, none⟩ : Addr).add j) = some u := by
  intro j u hj
  rw [Addr.add_lit]
  rw [World.cell?_alloc_new, ← hj]
  match j with
  | 0 => rfl
  | 1 => rfl
  | j + 2 => simp [ob2s]
theorem rd_pair (w : World) (x y : Int) (t : TypeId) : ∀ j u, (pr2 [(x, y)])[j]? = some u → (w.alloc (.cells #[.int .i64 x, .int .i64 y] t)).cell? ((⟨w.heap.size, 0, none⟩ : Addr).add j) = some u := by
  intro j u hj
  rw [Addr.add_lit]
  rw [World.cell?_alloc_new, ← hj]
  match j with
  | 0 => rfl
  | 1 => rfl
  | j + 2 => simp [pr2]
/-- behind two appends, the first one to nothing -/
theorem app_two {W w3 w4 : World} {v3 v4 : Value} {o : Obj} {L : List (Int × Int)} {p : Int × Int} {t : TypeId} {s nx : Nat} (hl : nx = L.length) (B3 : Below W.heap.size W w3) (na3 : ∀ k, v3.ownBlock = some k → W.heap.size ≤ k) (ho : w4.ownsRow (s + 2) t 2 v4 (nx + 1) (pr2 L ++ pr2 [p])) (hg : (w3.alloc o).grownBy w4 v3.ownBlock) (hat : v4.ownBlock = v3.ownBlock ∨ v4.ownBlock = some (w3.alloc o).heap.size) (hb : ∀ x ∈ L, In64 x.1 ∧ In64 x.2) (hp : In64 p.1 ∧ In64 p.2) :
    Below W.heap.size W w4 ∧ (∀ k, v4.ownBlock = some k → W.heap.size ≤ k) ∧ PrV w4 v4 (L ++ [p]) := by
  have hs := B3.size
  refine ⟨(B3.alloc hs o).grown hg (by simp only [World.size_alloc]; omega) na3, fun k hk => ?_, PrV.own (by rw [List.length_append, List.length_singleton, ← hl, pr2_app]; exact ho) (fun y hy => ?_)⟩
  · rcases hat with e | e
    · exact na3 k (by rw [← e]; exact hk)
    · rw [e] at hk
      have : (w3.alloc o).heap.size = k := Option.some.inj hk
      simp only [World.size_alloc] at this
      omega
  · rcases List.mem_append.1 hy with hy | hy
    · exact hb y hy
    · rw [List.mem_singleton.1 hy]; exact hp
section
variable {w0 W w4 : World} {b : Nat} {N : List ByteArray} {T : List (ClassA × Value)} {M : List (MethA × Value × Value)} {O : List (ObjA × Value)} {nv cv mv ov v4 : Value} {main : Int}
theorem OU.bind {g n cp k : Nat} {cx : ClassA} {bv : Value} {p : Int × Int} (h : OU w0 W (fun _ => False) b N T M O nv (.slice (some ⟨g, 0, none⟩) n cp) mv ov main) (hn : T.length = n) (hx : T[k]? = some (cx, bv)) (hb4 : (cx.binds ++ [p]).length ≤ b + 50) (B4 : Below W.heap.size W w4) (na4 : ∀ k, v4.ownBlock = some k → W.heap.size ≤ k) (hp : PrV w4 v4 (cx.binds ++ [p])) : w4.cell? ⟨g, k * 4 + 3, none⟩ = some bv ∧ w4.frozen? ⟨g, k * 4 + 3, none⟩ = false ∧ OUf w0 (w4.setCell ⟨g, k * 4 + 3, none⟩ v4) (b + 50) := by
  have hk := (List.getElem?_eq_some_iff.1 hx).1
  have h1 := (h.more (b' := b + 50) (I' := fun q => v4.ownBlock = some q) (by omega) (fun q e => e.elim) (fun q e => Or.inr (na4 q e))).up B4
  have ho := h1.oc
  rw [hn] at ho
  have hget := cl4s_get T k _ hx
  have hup := cl4s_set T k _ (cx.binds ++ [p]) v4 hx
  simp only at hget hup
  obtain ⟨s0, f0, nb, pb⟩ := h1.ic _ (List.mem_of_getElem? hx)
  simp only at s0 f0 nb pb
  refine ⟨(ho.cellAt (k * 4 + 3) (by omega)).trans hget.2.2.2, ho.frozenAt (k * 4 + 3), ?_⟩
  exact (h1.cls (k := k) (j := 3) (y := (⟨cx.nm, cx.super, cx.fields, cx.binds ++ [p]⟩, v4)) (u := v4) hn hup ⟨s0, f0, hb4, StP.new hp (fun q e => e)⟩ (h1.cs (cx, bv) (List.mem_of_getElem? hx))).fin (Nat.le_refl _)
theorem OU.litr {g n cp k : Nat} {mx : MethA} {lv kv : Value} {p : Int × Int} (h : OU w0 W (fun _ => False) b N T M O nv cv (.slice (some ⟨g, 0, none⟩) n cp) ov main) (hn : M.length = n) (hx : M[k]? = some (mx, lv, kv)) (hb4 : (mx.lits ++ [p]).length ≤ b + 50) (B4 : Below W.heap.size W w4) (na4 : ∀ k, v4.ownBlock = some k → W.heap.size ≤ k) (hp : PrV w4 v4 (mx.lits ++ [p])) : w4.cell? ⟨g, k * 4 + 2, none⟩ = some lv ∧ w4.frozen? ⟨g, k * 4 + 2, none⟩ = false ∧ OUf w0 (w4.setCell ⟨g, k * 4 + 2, none⟩ v4) (b + 50) := by
  have hk := (List.getElem?_eq_some_iff.1 hx).1
  have h1 := (h.more (b' := b + 50) (I' := fun q => v4.ownBlock = some q) (by omega) (fun q e => e.elim) (fun q e => Or.inr (na4 q e))).up B4
  have ho := h1.om
  rw [hn] at ho
  have hget := mt4s_get M k _ hx
  have hup := (mt4s_row M k _ hx (mx.lits ++ [p]) [] v4).1
  simp only at hget hup
  obtain ⟨s0, f0, nl, nk, pl, pk⟩ := h1.im _ (List.mem_of_getElem? hx)
  simp only at s0 f0 nl nk pl pk
  refine ⟨(ho.cellAt (k * 4 + 2) (by omega)).trans hget.2.2.1, ho.frozenAt (k * 4 + 2), ?_⟩
  exact (h1.met (k := k) (j := 2) (y := (⟨mx.args, mx.temps, mx.lits ++ [p], mx.code⟩, v4, kv)) (u := v4) hn hup ⟨s0, f0, hb4, nk, StP.new hp (fun q e => e), pk⟩).fin (Nat.le_refl _)
theorem OU.coder {g n cp k : Nat} {mx : MethA} {lv kv : Value} {C : List Int} (h : OU w0 W (fun _ => False) b N T M O nv cv (.slice (some ⟨g, 0, none⟩) n cp) ov main) (hn : M.length = n) (hx : M[k]? = some (mx, lv, kv)) (hb4 : C.length ≤ b + 50) (B4 : Below W.heap.size W w4) (na4 : ∀ k, v4.ownBlock = some k → W.heap.size ≤ k) (hp : ByV w4 v4 C) : w4.cell? ⟨g, k * 4 + 3, none⟩ = some kv ∧ w4.frozen? ⟨g, k * 4 + 3, none⟩ = false ∧ OUf w0 (w4.setCell ⟨g, k * 4 + 3, none⟩ v4) (b + 50) := by
  have hk := (List.getElem?_eq_some_iff.1 hx).1
  have h1 := (h.more (b' := b + 50) (I' := fun q => v4.ownBlock = some q) (by omega) (fun q e => e.elim) (fun q e => Or.inr (na4 q e))).up B4
  have ho := h1.om
  rw [hn] at ho
  have hget := mt4s_get M k _ hx
  have hup := (mt4s_row M k _ hx [] C v4).2
  simp only at hget hup
  obtain ⟨s0, f0, nl, nk, pl, pk⟩ := h1.im _ (List.mem_of_getElem? hx)
  simp only at s0 f0 nl nk pl pk
  refine ⟨(ho.cellAt (k * 4 + 3) (by omega)).trans hget.2.2.2, ho.frozenAt (k * 4 + 3), ?_⟩
  exact (h1.met (k := k) (j := 3) (y := (⟨mx.args, mx.temps, mx.lits, C⟩, lv, v4)) (u := v4) hn hup ⟨s0, f0, nl, hb4, pl, StB.new hp (fun q e => e)⟩).fin (Nat.le_refl _)
theorem OU.fldr {g n cp k : Nat} {ox : ObjA} {fv : Value} {p : Int × Int} (h : OU w0 W (fun _ => False) b N T M O nv cv mv (.slice (some ⟨g, 0, none⟩) n cp) main) (hn : O.length = n) (hx : O[k]? = some (ox, fv)) (hb4 : (ox.flds ++ [p]).length ≤ b + 50) (B4 : Below W.heap.size W w4) (na4 : ∀ k, v4.ownBlock = some k → W.heap.size ≤ k) (hp : PrV w4 v4 (ox.flds ++ [p])) : w4.cell? ⟨g, k * 2 + 1, none⟩ = some fv ∧ w4.frozen? ⟨g, k * 2 + 1, none⟩ = false ∧ OUf w0 (w4.setCell ⟨g, k * 2 + 1, none⟩ v4) (b + 50) := by
  have hk := (List.getElem?_eq_some_iff.1 hx).1
  have h1 := (h.more (b' := b + 50) (I' := fun q => v4.ownBlock = some q) (by omega) (fun q e => e.elim) (fun q e => Or.inr (na4 q e))).up B4
  have ho := h1.oo
  rw [hn] at ho
  have hget := ob2s_get O k _ hx
  have hup := (ob2s_up O k _ hx 0 (ox.flds ++ [p]) v4).2
  simp only at hget hup
  obtain ⟨s0, nf, pf⟩ := h1.io _ (List.mem_of_getElem? hx)
  simp only at s0 nf pf
  refine ⟨(ho.cellAt (k * 2 + 1) (by omega)).trans hget.2, ho.frozenAt (k * 2 + 1), ?_⟩
  exact (h1.obj (k := k) (j := 1) (y := (⟨ox.cls, ox.flds ++ [p]⟩, v4)) (u := v4) hn hup ⟨s0, hb4, StP.new hp (fun q e => e)⟩).fin (Nat.le_refl _)
end
end Wd
end Go.Proofs.YtgfdgdbkifkehaaGreat
