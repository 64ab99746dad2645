/- A row of bytes beside a small list of numbers. -/
import Derived.Test.YthlijmdohejheaaKC
namespace Go.Proofs.Ythlijmdohejheaa
open Go.RowKit
set_option linter.unusedVariables false
set_option maxRecDepth 20000
namespace Wd
/-- the list 7, 0 lies beside it -/
structure Pd (w0 w wr : World) (p n : Nat) (ad : Option Addr) (v0 v : Value) (C : List Int) (B : Nat) : Prop where
  pc : Pc w0 w wr p n ad v0 v C
  q0 : wr.cell? ⟨B, 0, none⟩ = some (.int .i64 7)
  q1 : wr.cell? ⟨B, 1, none⟩ = some (.int .i64 0)
  np : B ≠ p
  nv : v.ownBlock ≠ some B
section
variable {w0 w w1 w2 wX : World} {p n B : Nat} {ad : Option Addr} {v0 v v' : Value} {C : List Int}
theorem Pd.lt (h : Pd w0 w w1 p n ad v0 v C B) : B < w1.heap.size := World.block_lt_of_cell? w1 _ h.q0
theorem Pd.keep (h : Pd w0 w w1 p n ad v0 v C B) (b : Below w1.heap.size w1 w2) : Pd w0 w w2 p n ad v0 v C B :=
  ⟨h.pc.keep b, (World.cell?_of_block (a := ⟨B, 0, none⟩) (b.block B h.lt)).trans h.q0, (World.cell?_of_block (a := ⟨B, 1, none⟩) (b.block B h.lt)).trans h.q1, h.np, h.nv⟩
theorem Pd.born (h : Pc w0 w w1 p n ad v0 v C) (hX : wX = w1.alloc (.cells #[.int .i64 7, .int .i64 0] 3) ∨ wX = (w1.alloc (.cells #[.int .i64 7, .int .i64 0] 3)).drew) : Pd w0 w wX p n ad v0 v C w1.heap.size := by
  have h1 : Pd w0 w (w1.alloc (.cells #[.int .i64 7, .int .i64 0] 3)) p n ad v0 v C w1.heap.size :=
    ⟨h.keep ((Below.refl _ _).alloc (Nat.le_refl _) _), by simp, by simp, fun e => by have := h.ks.p0; have := h.ks.cg.size; omega, fun e => by have := (h.cd.lt _ e).2; omega⟩
  rcases hX with rfl | rfl
  · exact h1
  · exact h1.keep (Below.refl _ _).drew
theorem nx_a (m : Int) (h : Hid (Pc w0 w w1 p n ad v0 v C)) (hb : Below w1.heap.size w1 wX) (m1 : 1 ≤ m) (m2 : m ≤ 1000000) :
    Calls Try.prog 20 #[.pointer (some ⟨p, 0, none⟩), .int .i64 m] wX fun e w' => ∃ x : Int, e = .returned (.int .i64 x) ∧ (0 ≤ x ∧ x < m) ∧ Hid (Pc w0 w w' p n ad v0 v C) := by
  have h1 := h.out.keep hb
  refine (next_c m m1 m2 h1.ks.tp).mono ?_
  rintro e w' ⟨x, he, hx, t, c⟩
  exact ⟨x, he, hx, Lib.hid (h1.next t c)⟩
theorem nx_d (m : Int) (h : Hid (Pd w0 w w1 p n ad v0 v C B)) (hb : Below w1.heap.size w1 wX) (m1 : 1 ≤ m) (m2 : m ≤ 1000000) :
    Calls Try.prog 20 #[.pointer (some ⟨p, 0, none⟩), .int .i64 m] wX fun e w' => ∃ x : Int, e = .returned (.int .i64 x) ∧ (0 ≤ x ∧ x < m) ∧ Hid (Pd w0 w w' p n ad v0 v C B) := by
  have h1 := h.out.keep hb
  refine (next_c m m1 m2 h1.pc.ks.tp).mono ?_
  rintro e w' ⟨x, he, hx, t, c⟩
  have hk := c.block B h1.lt h1.np
  exact ⟨x, he, hx, Lib.hid ⟨h1.pc.next t c, (World.cell?_of_block (a := ⟨B, 0, none⟩) hk).trans h1.q0, (World.cell?_of_block (a := ⟨B, 1, none⟩) hk).trans h1.q1, h1.np, h1.nv⟩⟩
theorem nx_b (m : Int) (h : Hid (Pc w0 w w1 p n ad v0 v C)) (hX : wX = w1.alloc (.cells #[.int .i64 7, .int .i64 0] 3) ∨ wX = (w1.alloc (.cells #[.int .i64 7, .int .i64 0] 3)).drew) (m1 : 1 ≤ m) (m2 : m ≤ 1000000) :
    Calls Try.prog 20 #[.pointer (some ⟨p, 0, none⟩), .int .i64 m] wX fun e w' => ∃ x : Int, e = .returned (.int .i64 x) ∧ (0 ≤ x ∧ x < m) ∧ Hid (Pd w0 w w' p n ad v0 v C w1.heap.size) :=
  nx_d m (Lib.hid (Pd.born h.out hX)) (Below.refl _ _) m1 m2
theorem opx_a (h : Hid (Pc w0 w w1 p n ad v0 v C)) (hb : Below w1.heap.size w1 wX) (hl : C.length ≤ 100000) (o a : Int) :
    Calls Try.prog 33 #[v, .int .i64 o, .int .i64 a] wX fun e w' => ∃ v', e = .returned v' ∧ Hid (Pc w0 w w' p n ad v0 v' (C ++ [wr8 o, wr8 a])) := by
  refine (op_c (h.out.keep hb) hl o a).mono ?_
  rintro e w' ⟨v', he, h'⟩
  exact ⟨v', he, Lib.hid h'⟩
theorem opx_d (h : Hid (Pd w0 w w1 p n ad v0 v C B)) (hb : Below w1.heap.size w1 wX) (hl : C.length ≤ 100000) (o a : Int) :
    Calls Try.prog 33 #[v, .int .i64 o, .int .i64 a] wX fun e w' => ∃ v', e = .returned v' ∧ Hid (Pd w0 w w' p n ad v0 v' (C ++ [wr8 o, wr8 a]) B) := by
  have h1 := h.out.keep hb
  refine (op_c2 h1.pc hl o a).mono ?_
  rintro e w' ⟨v', he, h', c, ob⟩
  have hk := c.block B h1.lt (fun e => h1.nv e)
  refine ⟨v', he, Lib.hid ⟨h', (World.cell?_of_block (a := ⟨B, 0, none⟩) hk).trans h1.q0, (World.cell?_of_block (a := ⟨B, 1, none⟩) hk).trans h1.q1, h1.np, fun e => ?_⟩⟩
  rcases ob B e with e | e
  · exact h1.nv e
  · have := h1.lt; omega
theorem opx_b (h : Hid (Pc w0 w w1 p n ad v0 v C)) (hX : wX = w1.alloc (.cells #[.int .i64 7, .int .i64 0] 3) ∨ wX = (w1.alloc (.cells #[.int .i64 7, .int .i64 0] 3)).drew) (hl : C.length ≤ 100000) (o a : Int) :
    Calls Try.prog 33 #[v, .int .i64 o, .int .i64 a] wX fun e w' => ∃ v', e = .returned v' ∧ Hid (Pd w0 w w' p n ad v0 v' (C ++ [wr8 o, wr8 a]) w1.heap.size) :=
  opx_d (Lib.hid (Pd.born h.out hX)) (Below.refl _ _) hl o a
def sel70 (j : Nat) : Int := if j = 0 then 7 else 0
theorem sel70_or (j : Nat) : sel70 j = 7 ∨ sel70 j = 0 := by unfold sel70; split <;> simp
theorem Pd.sel (h : Pd w0 w w1 p n ad v0 v C B) {j : Nat} (hj : j < 2) : w1.cell? ⟨B, j, none⟩ = some (.int .i64 (sel70 j)) := by
  rcases (show j = 0 ∨ j = 1 by omega) with rfl | rfl
  · exact h.q0
  · exact h.q1
theorem born_sel (w1 : World) {j : Nat} (hj : j < 2) : (w1.alloc (.cells #[.int .i64 7, .int .i64 0] 3)).cell? ⟨w1.heap.size, j, none⟩ = some (.int .i64 (sel70 j)) := by
  rcases (show j = 0 ∨ j = 1 by omega) with rfl | rfl <;> simp [sel70]
/-- the third number: an index -/
theorem nx3_a (h : Hid (Pc w0 w w1 p n ad v0 v C)) (hb : Below w1.heap.size w1 wX) :
    Calls Try.prog 20 #[.pointer (some ⟨p, 0, none⟩), .int .i64 2] wX fun e w' => ∃ j : Nat, e = .returned (.int .i64 (j : Int)) ∧ j < 2 ∧ Hid (Pc w0 w w' p n ad v0 v C) ∧ (w'.alloc (.cells #[.int .i64 7, .int .i64 0] 3)).cell? ⟨w'.heap.size, j, none⟩ = some (.int .i64 (sel70 j)) := by
  refine (nx_a 2 h hb (by omega) (by omega)).mono ?_
  rintro e w' ⟨x, he, hx, h'⟩
  have ex : x = ((x.toNat : Nat) : Int) := by omega
  exact ⟨x.toNat, by rw [← ex]; exact he, by omega, h', born_sel _ (by omega)⟩
theorem nx3_d (h : Hid (Pd w0 w w1 p n ad v0 v C B)) (hb : Below w1.heap.size w1 wX) :
    Calls Try.prog 20 #[.pointer (some ⟨p, 0, none⟩), .int .i64 2] wX fun e w' => ∃ j : Nat, e = .returned (.int .i64 (j : Int)) ∧ j < 2 ∧ Hid (Pd w0 w w' p n ad v0 v C B) ∧ w'.cell? ⟨B, j, none⟩ = some (.int .i64 (sel70 j)) := by
  refine (nx_d 2 h hb (by omega) (by omega)).mono ?_
  rintro e w' ⟨x, he, hx, h'⟩
  have ex : x = ((x.toNat : Nat) : Int) := by omega
  exact ⟨x.toNat, by rw [← ex]; exact he, by omega, h', h'.out.sel (by omega)⟩
theorem nx3_b (h : Hid (Pc w0 w w1 p n ad v0 v C)) (hX : wX = w1.alloc (.cells #[.int .i64 7, .int .i64 0] 3) ∨ wX = (w1.alloc (.cells #[.int .i64 7, .int .i64 0] 3)).drew) :
    Calls Try.prog 20 #[.pointer (some ⟨p, 0, none⟩), .int .i64 2] wX fun e w' => ∃ j : Nat, e = .returned (.int .i64 (j : Int)) ∧ j < 2 ∧ Hid (Pd w0 w w' p n ad v0 v C w1.heap.size) ∧ w'.cell? ⟨w1.heap.size, j, none⟩ = some (.int .i64 (sel70 j)) :=
  nx3_d (Lib.hid (Pd.born h.out hX)) (Below.refl _ _)
theorem arr_sel {j : Nat} (hj : j < 2) : (#[Value.int .i64 7, Value.int .i64 0] : Array Value)[j]? = some (.int .i64 (sel70 j)) := by
  rcases (show j = 0 ∨ j = 1 by omega) with rfl | rfl <;> simp [sel70]
theorem lst_sel {j : Nat} (hj : j < 2) : ([Value.int .i64 7, Value.int .i64 0] : List Value)[j]? = some (.int .i64 (sel70 j)) := by
  rcases (show j = 0 ∨ j = 1 by omega) with rfl | rfl <;> simp [sel70]
def Mark (j : Nat) : Prop := j < 2
theorem fin_G {x k z : Int} {j : Nat} (h : Hid (Pd w0 w w1 p n ad v0 v (((((C ++ [wr8 0, wr8 x]) ++ [wr8 7, wr8 k]) ++ [wr8 (sel70 j), wr8 z]) ++ [wr8 21, wr8 9]) ++ [wr8 8, wr8 0]) B)) : Pc w0 w w1 p n ad v0 v (C ++ [wr8 0, wr8 x, wr8 7, wr8 k, wr8 (sel70 j), wr8 z, wr8 21, wr8 9, wr8 8, wr8 0]) := by
  have := h.out.pc
  simpa using this
end
end Wd
end Go.Proofs.Ythlijmdohejheaa
