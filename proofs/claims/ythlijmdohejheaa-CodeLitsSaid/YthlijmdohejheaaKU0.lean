/- A tape's program: what is known while it is made. -/
import Derived.Test.YthlijmdohejheaaKM0
namespace Go.Proofs.Ythlijmdohejheaa
open Go.RowKit
set_option linter.unusedVariables false
set_option maxRecDepth 20000
namespace Wd
/-- while a program is made: its box lies at B, of a world wB on -/
structure Un (w wB wr : World) (p n : Nat) (ad : Option Addr) (B : Nat) (nv cv mv ov : Value) : Prop where
  ks : Ks w wr p n ad
  cg : Cg (fun k => k = p ∨ B ≤ k) wB wr
  c0 : wr.cell? ⟨B, 0, none⟩ = some nv
  c1 : wr.cell? ⟨B, 1, none⟩ = some cv
  c2 : wr.cell? ⟨B, 2, none⟩ = some mv
  c3 : wr.cell? ⟨B, 3, none⟩ = some ov
  c4 : wr.cell? ⟨B, 4, none⟩ = some (.int .i64 6)
  z : ∀ j, wr.frozen? ⟨B, j, none⟩ = false
  bB : w.heap.size ≤ B
  bs : B < wB.heap.size
section
variable {w wB w1 w2 : World} {p n B : Nat} {ad : Option Addr} {nv cv mv ov u : Value}
theorem Un.pB (h : Un w wB w1 p n ad B nv cv mv ov) : p < B := Nat.lt_of_lt_of_le h.ks.p0 h.bB
theorem Un.lt (h : Un w wB w1 p n ad B nv cv mv ov) : B < w1.heap.size := Nat.lt_of_lt_of_le h.bs h.cg.size
theorem Un.wsz (h : Un w wB w1 p n ad B nv cv mv ov) : w.heap.size ≤ wB.heap.size := Nat.le_of_lt (Nat.lt_of_le_of_lt h.bB h.bs)
theorem Un.block (h : Un w wB w1 p n ad B nv cv mv ov) (ks : Ks w w2 p n ad) (cg : Cg (fun k => k = p ∨ B ≤ k) wB w2) (e : w2.heap[B]? = w1.heap[B]?) : Un w wB w2 p n ad B nv cv mv ov :=
  ⟨ks, cg, (World.cell?_of_block (a := ⟨B, 0, none⟩) e).trans h.c0, (World.cell?_of_block (a := ⟨B, 1, none⟩) e).trans h.c1, (World.cell?_of_block (a := ⟨B, 2, none⟩) e).trans h.c2, (World.cell?_of_block (a := ⟨B, 3, none⟩) e).trans h.c3, (World.cell?_of_block (a := ⟨B, 4, none⟩) e).trans h.c4, fun j => (World.frozen?_of_block (a := ⟨B, j, none⟩) e).trans (h.z j), h.bB, h.bs⟩
theorem Un.next (h : Un w wB w1 p n ad B nv cv mv ov) (t : Tp w2 p ad n) (c : Cg (fun k => k = p) w1 w2) : Un w wB w2 p n ad B nv cv mv ov :=
  h.block (h.ks.step t c) (h.cg.trans (c.mono (fun k hk => Or.inl hk))) (c.block B h.lt (fun e => by have := h.pB; omega))
theorem Un.far (h : Un w wB w1 p n ad B nv cv mv ov) {F : Nat → Prop} (c : Cg F w1 w2) (hF : ∀ k, F k → B < k) : Un w wB w2 p n ad B nv cv mv ov :=
  h.block (h.ks.other c (fun k hk => by have := hF k hk; have := h.bB; omega)) (h.cg.trans (c.mono (fun k hk => Or.inr (Nat.le_of_lt (hF k hk))))) (c.block B h.lt (fun hf => by have := hF B hf; omega))
theorem Un.keep (h : Un w wB w1 p n ad B nv cv mv ov) (b : Below w1.heap.size w1 w2) : Un w wB w2 p n ad B nv cv mv ov := h.far (F := fun _ => False) (Cg.below _ b) (fun _ hf => hf.elim)
theorem Un.set (h : Un w wB w1 p n ad B nv cv mv ov) (j : Nat) (x : Value) : Ks w (w1.setCell ⟨B, j, none⟩ x) p n ad ∧ Cg (fun k => k = p ∨ B ≤ k) wB (w1.setCell ⟨B, j, none⟩ x) ∧ (∀ i, i ≠ j → (w1.setCell ⟨B, j, none⟩ x).cell? ⟨B, i, none⟩ = w1.cell? ⟨B, i, none⟩) ∧ ∀ i, (w1.setCell ⟨B, j, none⟩ x).frozen? ⟨B, i, none⟩ = false :=
  ⟨h.ks.other (F := fun k => k = B) ((Cg.refl (fun k => k = B) w1).set ⟨B, j, none⟩ rfl x) (fun k hk => by have := h.bB; omega), h.cg.trans (((Cg.refl (fun k => k = B) w1).set ⟨B, j, none⟩ rfl x).mono (fun k hk => Or.inr (by omega))), fun i hi => World.cell?_setCell_other _ _ _ _ (by intro e; injection e with _ h2; omega), fun i => (World.frozen?_setCell _ _ _ _).trans (h.z i)⟩
theorem Un.put1 (h : Un w wB w1 p n ad B nv cv mv ov) (x : Value) : Un w wB (w1.setCell ⟨B, 1, none⟩ x) p n ad B nv x mv ov := by
  obtain ⟨k, g, f, z⟩ := h.set 1 x
  exact ⟨k, g, (f 0 (by decide)).trans h.c0, World.cell?_setCell_same _ _ _ h.c1, (f 2 (by decide)).trans h.c2, (f 3 (by decide)).trans h.c3, (f 4 (by decide)).trans h.c4, z, h.bB, h.bs⟩
theorem Un.put2 (h : Un w wB w1 p n ad B nv cv mv ov) (x : Value) : Un w wB (w1.setCell ⟨B, 2, none⟩ x) p n ad B nv cv x ov := by
  obtain ⟨k, g, f, z⟩ := h.set 2 x
  exact ⟨k, g, (f 0 (by decide)).trans h.c0, (f 1 (by decide)).trans h.c1, World.cell?_setCell_same _ _ _ h.c2, (f 3 (by decide)).trans h.c3, (f 4 (by decide)).trans h.c4, z, h.bB, h.bs⟩
theorem Un.put3 (h : Un w wB w1 p n ad B nv cv mv ov) (x : Value) : Un w wB (w1.setCell ⟨B, 3, none⟩ x) p n ad B nv cv mv x := by
  obtain ⟨k, g, f, z⟩ := h.set 3 x
  exact ⟨k, g, (f 0 (by decide)).trans h.c0, (f 1 (by decide)).trans h.c1, (f 2 (by decide)).trans h.c2, World.cell?_setCell_same _ _ _ h.c3, (f 4 (by decide)).trans h.c4, z, h.bB, h.bs⟩
end
/-- a row of the call's own is kept -/
theorem row_next {w1 w2 : World} {b size n p : Nat} {e : TypeId} {v : Value} {xs : List Value} (h : w1.ownsRow b e size v n xs) (c : Cg (fun k => k = p) w1 w2) (hp : p < b) : w2.ownsRow b e size v n xs :=
  row_cg h c (fun k hk hf => by have := (h.lt k hk).1; omega)
theorem row_bel {w1 w2 : World} {b size n : Nat} {e : TypeId} {v : Value} {xs : List Value} (h : w1.ownsRow b e size v n xs) (c : Below w1.heap.size w1 w2) : w2.ownsRow b e size v n xs :=
  row_cg (F := fun _ => False) h (Cg.below _ c) (fun _ _ hf => hf)
theorem row_set {w1 : World} {b size n : Nat} {e : TypeId} {v : Value} {xs : List Value} (h : w1.ownsRow b e size v n xs) (a : Addr) (x : Value) (ha : v.ownBlock ≠ some a.block) : (w1.setCell a x).ownsRow b e size v n xs :=
  row_cg (F := fun k => k = a.block) h ((Cg.refl (fun k => k = a.block) w1).set a rfl x) (fun k hk hf => ha (by rw [hk, hf]))
/-- the name of a class of a tape -/
def cName (i : Nat) : ByteArray := ⟨#[67, UInt8.ofNat (48 + i)]⟩
/-- a class of a tape, k ahead of it -/
structure clsOk (L : List ClassA) (k : Nat) (c : ClassA) : Prop where
  z : k = 0 → c.nm = ⟨#[66, 108, 111, 99, 107]⟩ ∧ c.super = -1 ∧ c.fields = 4
  o : k = 1 → c.nm = ⟨#[65, 114, 114, 97, 121]⟩ ∧ c.super = -1 ∧ c.fields = 0
  nm : 2 ≤ k → c.nm = cName (k - 2)
  sup : 2 ≤ k → c.super = -1 ∨ (2 ≤ c.super ∧ c.super < k ∧ ∃ d, L[c.super.toNat]? = some d ∧ d.fields ≤ c.fields)
  fld : 2 ≤ k → 0 ≤ c.fields ∧ c.fields ≤ 2 * k
/-- classes of a tape, so far -/
structure Cls (T : List (ClassA × Value)) : Prop where
  two : 2 ≤ T.length
  ok : ∀ (k : Nat) x, T[k]? = some x → clsOk (T.map (·.1)) k x.1 ∧ x.1.binds = [] ∧ x.2 = .slice none 0 0
theorem Cls.start : Cls [(⟨⟨#[66, 108, 111, 99, 107]⟩, -1, 4, []⟩, .slice none 0 0), (⟨⟨#[65, 114, 114, 97, 121]⟩, -1, 0, []⟩, .slice none 0 0)] := by
  refine ⟨by simp, fun k x hx => ?_⟩
  match k, hx with
  | 0, hx =>
    simp at hx; subst hx
    exact ⟨⟨fun _ => ⟨rfl, rfl, rfl⟩, fun h => by omega, fun h => by omega, fun h => by omega, fun h => by omega⟩, rfl, rfl⟩
  | 1, hx =>
    simp at hx; subst hx
    exact ⟨⟨fun h => by omega, fun _ => ⟨rfl, rfl, rfl⟩, fun h => by omega, fun h => by omega, fun h => by omega⟩, rfl, rfl⟩
  | k + 2, hx => simp at hx
theorem clsOk.more {L M : List ClassA} {k : Nat} {c : ClassA} (h : clsOk L k c) (hk : k ≤ L.length) : clsOk (L ++ M) k c := by
  refine ⟨h.z, h.o, h.nm, fun h2 => ?_, h.fld⟩
  rcases h.sup h2 with e | ⟨e1, e2, d, e3, e4⟩
  · exact Or.inl e
  · exact Or.inr ⟨e1, e2, d, by rw [List.getElem?_append_left (by omega)]; exact e3, e4⟩
theorem Cls.add {T : List (ClassA × Value)} (h : Cls T) {c : ClassA} (hc : clsOk (T.map (·.1)) T.length c) (hb : c.binds = []) : Cls (T ++ [(c, .slice none 0 0)]) := by
  refine ⟨by simp; have := h.two; omega, fun k x hx => ?_⟩
  rw [List.map_append]
  by_cases hk : k < T.length
  · rw [List.getElem?_append_left hk] at hx
    obtain ⟨a, b⟩ := h.ok k x hx
    exact ⟨a.more (by simp; omega), b⟩
  · rw [List.getElem?_append_right (by omega)] at hx
    have hk0 : k = T.length := by
      have := (List.getElem?_eq_some_iff.1 hx).1
      simp at this; omega
    subst hk0
    simp at hx; subst hx
    exact ⟨hc.more (by simp), hb, rfl⟩
/-- a method -/
structure MethA where
  args : Int
  temps : Int
  lits : List (Int × Int)
  code : List Int
def mt4 (x : MethA) (lv cv : Value) : List Value := [.int .i64 x.args, .int .i64 x.temps, lv, cv]
def mt4s : List (MethA × Value × Value) → List Value
  | [] => []
  | x :: X => mt4 x.1 x.2.1 x.2.2 ++ mt4s X
theorem mt4s_app : ∀ A B, mt4s (A ++ B) = mt4s A ++ mt4s B
  | [], _ => rfl
  | t :: A, B => by simp [mt4s, mt4s_app A B]
theorem mt4s_len : ∀ A, (mt4s A).length = A.length * 4
  | [] => rfl
  | t :: A => by simp only [mt4s, mt4, List.length_append, List.length_cons, List.length_nil, mt4s_len A]; omega
theorem mt4s_get : ∀ (T : List (MethA × Value × Value)) (k : Nat) t, T[k]? = some t → (mt4s T)[k * 4]? = some (.int .i64 t.1.args) ∧ (mt4s T)[k * 4 + 1]? = some (.int .i64 t.1.temps) ∧ (mt4s T)[k * 4 + 2]? = some t.2.1 ∧ (mt4s T)[k * 4 + 3]? = some t.2.2
  | [], k, t, h => by simp at h
  | s :: T, 0, t, h => by simp at h; subst h; simp [mt4s, mt4]
  | s :: T, k + 1, t, h => by
    have := mt4s_get T k t (by simpa using h)
    rw [show (k + 1) * 4 = k * 4 + 4 by omega]
    simpa [mt4s, mt4] using this
theorem mt4s_one : ∀ (T : List (MethA × Value × Value)), (∀ x ∈ T, (∃ a m c, x.2.1 = .slice a m c) ∧ ∃ a m c, x.2.2 = .slice a m c) → ∀ u ∈ mt4s T, u.oneCell' = true
  | [], _, u, h => by cases h
  | t :: T, hT, u, h => by
    simp only [mt4s, mt4, List.mem_append, List.mem_cons, List.not_mem_nil, or_false] at h
    rcases h with (rfl | rfl | rfl | rfl) | h
    · rfl
    · rfl
    · exact sl_one (hT t (by simp)).1
    · exact sl_one (hT t (by simp)).2
    · exact mt4s_one T (fun x hx => hT x (by simp [hx])) u h
/-- what a method of a tape is; c: how many classes there are -/
structure methOk (c : Int) (j : Nat) (x : MethA) : Prop where
  args : x.args = if j < 6 then argOf j else if j = 8 then 1 else 0
  temps : x.temps = 2
  lits : litsOk c x.lits
  code : ∃ I, codeOk (decide (7 ≤ j)) I ∧ x.code = flat I
/-- the two rows of a method -/
structure Sub2 (H : Nat) (w : World) (x : MethA × Value × Value) : Prop where
  l : w.ownsRow H 41 2 x.2.1 x.1.lits.length (pr2 x.1.lits)
  c : w.ownsRow H 5 1 x.2.2 x.1.code.length (bys x.1.code)
theorem Sub2.carry {H : Nat} {w1 w2 : World} {x : MethA × Value × Value} {F : Nat → Prop} (h : Sub2 H w1 x) (c : Cg F w1 w2) (hF : ∀ k, H ≤ k → F k → x.2.1.ownBlock ≠ some k ∧ x.2.2.ownBlock ≠ some k) : Sub2 H w2 x :=
  ⟨row_cg h.l c (fun k hk hf => (hF k (h.l.lt k hk).1 hf).1 hk), row_cg h.c c (fun k hk hf => (hF k (h.c.lt k hk).1 hf).2 hk)⟩
theorem Sub2.form {H : Nat} {w1 : World} {x : MethA × Value × Value} (h : Sub2 H w1 x) : (∃ a m c, x.2.1 = .slice a m c) ∧ ∃ a m c, x.2.2 = .slice a m c := ⟨slice_form h.l, slice_form h.c⟩
/-- the methods that are made, so far -/
structure MRow (H : Nat) (w : World) (c : Int) (mv : Value) (k : Nat) (M : List (MethA × Value × Value)) : Prop where
  row : w.ownsRow H 37 4 mv k (mt4s M)
  len : k = M.length
  sub : ∀ x ∈ M, Sub2 H w x
  sep : ∀ x ∈ M, ∀ b, mv.ownBlock = some b → x.2.1.ownBlock ≠ some b ∧ x.2.2.ownBlock ≠ some b
  ok : ∀ (j : Nat) x, M[j]? = some x → methOk c j x.1
theorem MRow.start (H : Nat) (w : World) (c : Int) : MRow H w c (.slice none 0 0) 0 [] := ⟨World.ownsRow_nil _ _ _ _, rfl, by simp, by simp, by simp⟩
theorem MRow.carry {H k : Nat} {w1 w2 : World} {c : Int} {mv : Value} {M : List (MethA × Value × Value)} {F : Nat → Prop} (h : MRow H w1 c mv k M) (cg : Cg F w1 w2) (hF : ∀ b, F b → b < H) : MRow H w2 c mv k M :=
  ⟨row_cg h.row cg (fun b hb hf => by have := (h.row.lt b hb).1; have := hF b hf; omega), h.len, fun x hx => (h.sub x hx).carry cg (fun b hb hf => by have := hF b hf; omega), h.sep, h.ok⟩
theorem MRow.bel {H k : Nat} {w1 w2 : World} {c : Int} {mv : Value} {M : List (MethA × Value × Value)} (h : MRow H w1 c mv k M) (b : Below w1.heap.size w1 w2) : MRow H w2 c mv k M :=
  h.carry (F := fun _ => False) (Cg.below _ b) (fun _ hf => hf.elim)
/-- methods are appended: w1: the row as it was, with the new ones' rows beside; wA: only grown; w2: appended -/
theorem MRow.add {H k m : Nat} {w1 wA w2 : World} {c : Int} {mv mv' : Value} {M N : List (MethA × Value × Value)} (h : MRow H w1 c mv k M) (hm : m = N.length) (hN : ∀ x ∈ N, Sub2 H w1 x) (hs : ∀ x ∈ N, ∀ b, mv.ownBlock = some b → x.2.1.ownBlock ≠ some b ∧ x.2.2.ownBlock ≠ some b) (hA : Below w1.heap.size w1 wA) (ho : w2.ownsRow H 37 4 mv' (k + m) (mt4s M ++ mt4s N)) (hg : wA.grownBy w2 mv.ownBlock) (hat : ∀ b, mv'.ownBlock = some b → mv.ownBlock = some b ∨ b = wA.heap.size) (hok : ∀ (j : Nat) x, N[j]? = some x → methOk c (k + j) x.1) : MRow H w2 c mv' (k + m) (M ++ N) := by
  have hc1 : Cg (fun b => mv.ownBlock = some b) w1 w2 := (Cg.below _ hA).grown hg (fun b e => Or.inl e)
  have hall : ∀ x ∈ M ++ N, Sub2 H w1 x ∧ ∀ b, mv.ownBlock = some b → x.2.1.ownBlock ≠ some b ∧ x.2.2.ownBlock ≠ some b := fun x hx => by
    rcases List.mem_append.1 hx with hx | hx
    · exact ⟨h.sub x hx, h.sep x hx⟩
    · exact ⟨hN x hx, hs x hx⟩
  refine ⟨by rw [mt4s_app]; exact ho, by simp [h.len, hm], fun x hx => (hall x hx).1.carry hc1 (fun b _ hf => (hall x hx).2 b hf), fun x hx b hb => ?_, fun j x hx => ?_⟩
  · rcases hat b hb with e | e
    · exact (hall x hx).2 b e
    · have hsz := hA.size
      exact ⟨fun e1 => by have := ((hall x hx).1.l.lt b e1).2; omega, fun e1 => by have := ((hall x hx).1.c.lt b e1).2; omega⟩
  · by_cases hj : j < M.length
    · rw [List.getElem?_append_left hj] at hx
      exact h.ok j x hx
    · rw [List.getElem?_append_right (by omega)] at hx
      have := hok (j - M.length) x hx
      rw [h.len, show M.length + (j - M.length) = j by omega] at this
      exact this
theorem mt4_at {w : World} {g : Nat} {x : MethA} {lv cv : Value} (h0 : w.cell? ⟨g, 0, none⟩ = some (.int .i64 x.args)) (h1 : w.cell? ⟨g, 1, none⟩ = some (.int .i64 x.temps)) (h2 : w.cell? ⟨g, 2, none⟩ = some lv) (h3 : w.cell? ⟨g, 3, none⟩ = some cv) : ∀ j v, (mt4s [(x, lv, cv)])[j]? = some v → w.cell? ((⟨g, 0, none⟩ : Addr).add j) = some v := by
  intro j v hu
  match j, hu with
  | 0, hu =>
    simp [mt4s, mt4] at hu; subst hu
    rw [Addr.add_lit]; exact h0
  | 1, hu =>
    simp [mt4s, mt4] at hu; subst hu
    rw [Addr.add_lit]; exact h1
  | 2, hu =>
    simp [mt4s, mt4] at hu; subst hu
    rw [Addr.add_lit]; exact h2
  | 3, hu =>
    simp [mt4s, mt4] at hu; subst hu
    rw [Addr.add_lit]; exact h3
end Wd
end Go.Proofs.Ythlijmdohejheaa
