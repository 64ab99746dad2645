/- What the laws ask of a meter, whoever keeps it; the chapter's runs. -/
import Derived.Test.YtafogggfiopcgaaCRef
import Derived.Deep.RegionHeld3
namespace Go.Proofs.Ytafogggfiopcgaa
open Go.RowKit
set_option linter.unusedVariables false
namespace Wd
/-- w' is w, but for the blocks of F and new ones -/
structure Ch (F : Nat → Prop) (w w' : World) : Prop where
  os : w'.os = w.os
  tape : w'.tape = w.tape
  output : w'.output = w.output
  size : w.heap.size ≤ w'.heap.size
  block : ∀ k, k < w.heap.size → ¬ F k → w'.heap[k]? = w.heap[k]?
/-- a number is held between 0 and 2^20 -/
def held (x : Int) : Int := max (min x 1048576) 0
theorem held_bd (x : Int) : 0 ≤ held x ∧ held x ≤ 1048576 := by unfold held; omega
def top : Int := 1152921504606846976
/-- what a step may cost -/
def bndR (a b c d e p kind : Int) : Int := if rt a b c d e p = 0 then (if kind = 0 then 64 else if kind = 1 then 64 + 128 * (p + 2) + 128 else if kind = 2 then 112 else if kind = 3 then 80 else 0) else 0
abbrev CAt := World → Nat → Int → Int → Int → (Nat → Prop) → Prop
def InI (x : Int) : Prop := -9223372036854775808 ≤ x ∧ x ≤ 9223372036854775807
def cfgV (a b c d e p : Int) : Value := .agg #[.int .i64 a, .int .i64 b, .int .i64 c, .int .i64 d, .int .i64 e, .int .i64 p]
/-- what the laws ask of the package's meter: 'CA w p t l m F': at block p lies a meter that counted t, l of it ahead of the last mark, whose greatest mark is m; it lies in the blocks F -/
structure CostK (CA : CAt) : Prop where
  lt : ∀ {w p t l m F}, CA w p t l m F → ∀ b, F b → b < w.heap.size
  keep : ∀ {w w' p t l m F}, CA w p t l m F → (∀ b, F b → w'.heap[b]? = w.heap[b]?) → CA w' p t l m F
  bd : ∀ {w p t l m F}, CA w p t l m F → 0 ≤ l ∧ l ≤ t ∧ t ≤ top ∧ 0 ≤ m ∧ m ≤ top
  new : ∀ {w}, Calls Try.prog 12 #[] w fun e w' => ∃ p F, e = .returned (.pointer (some ⟨p, 0, none⟩)) ∧ CA w' p 0 0 0 F ∧ (∀ b, F b → w.heap.size ≤ b) ∧ Below w.heap.size w w'
  add : ∀ {w p t l m F} (x : Int), CA w p t l m F → InI x → t + held x ≤ top → Calls Try.prog 13 #[.pointer (some ⟨p, 0, none⟩), .int .i64 x] w fun e w' => e = .returned (.tuple #[]) ∧ CA w' p (t + held x) l m F ∧ Ch F w w'
  mark : ∀ {w p t l m F}, CA w p t l m F → Calls Try.prog 14 #[.pointer (some ⟨p, 0, none⟩)] w fun e w' => e = .returned (.int .i64 (t - l)) ∧ CA w' p t t (max m (t - l)) F ∧ Ch F w w'
  total : ∀ {w p t l m F}, CA w p t l m F → Calls Try.prog 15 #[.pointer (some ⟨p, 0, none⟩)] w fun e w' => e = .returned (.int .i64 t) ∧ Below w.heap.size w w'
  most : ∀ {w p t l m F}, CA w p t l m F → Calls Try.prog 16 #[.pointer (some ⟨p, 0, none⟩)] w fun e w' => e = .returned (.int .i64 m) ∧ Below w.heap.size w w'
  bound : ∀ {w} (a b c d e p kind : Int), InI a → InI b → InI c → InI d → InI e → InI p → InI kind → Calls Try.prog 11 #[.agg #[.int .i64 a, .int .i64 b, .int .i64 c, .int .i64 d, .int .i64 e, .int .i64 p], .int .i64 kind] w fun r w' => r = .returned (.int .i64 (bndR a b c d e p kind)) ∧ Below w.heap.size w w'
/-- the package's meter, of the call's own -/
structure CS (CA : CAt) (w0 wr : World) (p : Nat) (t l m : Int) (F : Nat → Prop) : Prop where
  ca : CA wr p t l m F
  bel : Below w0.heap.size w0 wr
  fF : ∀ b, F b → w0.heap.size ≤ b
section
variable {CA : CAt} {w0 wr w1 : World} {p : Nat} {t l m t' l' m' : Int} {F : Nat → Prop}
theorem CS.keep (K : CostK CA) (h : CS CA w0 wr p t l m F) (g : Below wr.heap.size wr w1) : CS CA w0 w1 p t l m F :=
  ⟨K.keep h.ca (fun b hb => g.block b (K.lt h.ca b hb)), h.bel.trans (g.mono h.bel.size), h.fF⟩
theorem CS.ch (h : CS CA w0 wr p t l m F) (hp : CA w1 p t' l' m' F) (c : Ch F wr w1) : CS CA w0 w1 p t' l' m' F :=
  ⟨hp, h.bel.trans ⟨c.os, c.tape, c.output, c.size, fun b hb => c.block b (Nat.lt_of_lt_of_le hb h.bel.size) (fun hF => by have := h.fF b hF; omega)⟩, h.fF⟩
end
/-- a memory's numbers in memory of the call's own -/
structure Box6 (w : World) (B : Nat) (a b c d e p : Int) : Prop where
  c0 : w.cell? ⟨B, 0, none⟩ = some (.int .i64 a)
  c1 : w.cell? ⟨B, 1, none⟩ = some (.int .i64 b)
  c2 : w.cell? ⟨B, 2, none⟩ = some (.int .i64 c)
  c3 : w.cell? ⟨B, 3, none⟩ = some (.int .i64 d)
  c4 : w.cell? ⟨B, 4, none⟩ = some (.int .i64 e)
  c5 : w.cell? ⟨B, 5, none⟩ = some (.int .i64 p)
theorem Box6.keep {w w1 : World} {B : Nat} {a b c d e p : Int} (h : Box6 w B a b c d e p) (g : Below w.heap.size w w1) : Box6 w1 B a b c d e p := by
  have k : ∀ {x : Addr} {v : Value}, w.cell? x = some v → w1.cell? x = some v := fun hc => (g.cell (World.block_lt_of_cell? w _ hc)).trans hc
  exact ⟨k h.c0, k h.c1, k h.c2, k h.c3, k h.c4, k h.c5⟩
theorem Box6.made (w : World) (a b c d e p : Int) (t : TypeId) : Box6 (w.alloc (.cells #[.int .i64 a, .int .i64 b, .int .i64 c, .int .i64 d, .int .i64 e, .int .i64 p] t)) w.heap.size a b c d e p := ⟨by simp, by simp, by simp, by simp, by simp, by simp⟩
theorem inI_lit (x : Int) (h : decide (-9223372036854775808 ≤ x ∧ x ≤ 9223372036854775807) = true) : InI x := by unfold InI; exact of_decide_eq_true h
set_option maxHeartbeats 8000000 in
theorem known_any {CA : CAt} (K : CostK CA) (w : World) :
    Calls Try.prog 10 #[] w fun e w' => e = .returned (.bool true) ∧ Below w.heap.size w w' := by
  have ht : top = 1152921504606846976 := rfl
  have z1 : (0 : Int) + held 5 = 5 := by decide
  have z2 : (5 : Int) + held (-5) = 5 := by decide
  have z3 : (5 : Int) + held 2 = 7 := by decide
  have b0 : bndR 1 0 0 0 0 2 0 = 64 := by decide
  have b1 : bndR 1 0 0 0 0 2 1 = 704 := by decide
  have b2 : bndR 1 0 0 0 0 2 2 = 112 := by decide
  have b3 : bndR 1 0 0 0 0 2 3 = 80 := by decide
  have b9 : bndR 1 0 0 0 0 2 9 = 0 := by decide
  have bz : bndR 0 0 0 0 0 0 0 = 0 := by decide
  go_enter Try.func10, Try.ntmps10
  go_wp2_with fail
  refine K.new.mono ?_
  rintro e w1 ⟨p, F, rfl, hp, hF, hb⟩
  have hs : CS CA w w1 p 0 0 0 F := ⟨hp, hb, hF⟩
  replace hs := Lib.hid hs
  clear hp hF hb
  go_wp2_with fail
  have P := K.mark hs.out.ca
  rw [show (0 : Int) - 0 = 0 by omega, show max (0 : Int) 0 = 0 by omega] at P
  refine P.mono ?_
  clear P
  rintro e w2 ⟨he, hp, hc⟩
  replace he : e = .returned (.int .i64 0) := he
  subst he
  replace hs := Lib.hid (hs.out.ch hp hc)
  clear hp hc
  go_wp2_with fail
  have P := K.add 5 hs.out.ca (inI_lit _ (by decide)) (by rw [z1, ht]; omega)
  rw [z1] at P
  refine P.mono ?_
  clear P
  rintro e w3 ⟨he, hp, hc⟩
  replace he : e = .returned (.tuple #[]) := he
  subst he
  replace hs := Lib.hid (hs.out.ch hp hc)
  clear hp hc
  go_wp2_with fail
  have P := K.add (-5) hs.out.ca (inI_lit _ (by decide)) (by rw [z2, ht]; omega)
  rw [z2] at P
  refine P.mono ?_
  clear P
  rintro e w4 ⟨he, hp, hc⟩
  replace he : e = .returned (.tuple #[]) := he
  subst he
  replace hs := Lib.hid (hs.out.ch hp hc)
  clear hp hc
  go_wp2_with fail
  have P := K.mark hs.out.ca
  rw [show (5 : Int) - 0 = 5 by omega, show max (0 : Int) 5 = 5 by omega] at P
  refine P.mono ?_
  clear P
  rintro e w5 ⟨he, hp, hc⟩
  replace he : e = .returned (.int .i64 5) := he
  subst he
  replace hs := Lib.hid (hs.out.ch hp hc)
  clear hp hc
  go_wp2_with fail
  have P := K.add 2 hs.out.ca (inI_lit _ (by decide)) (by rw [z3, ht]; omega)
  rw [z3] at P
  refine P.mono ?_
  clear P
  rintro e w6 ⟨he, hp, hc⟩
  replace he : e = .returned (.tuple #[]) := he
  subst he
  replace hs := Lib.hid (hs.out.ch hp hc)
  clear hp hc
  go_wp2_with fail
  have P := K.mark hs.out.ca
  rw [show (7 : Int) - 5 = 2 by omega, show max (5 : Int) 2 = 5 by omega] at P
  refine P.mono ?_
  clear P
  rintro e w7 ⟨he, hp, hc⟩
  replace he : e = .returned (.int .i64 2) := he
  subst he
  replace hs := Lib.hid (hs.out.ch hp hc)
  clear hp hc
  have bx : Hid (Box6 (w7.alloc (.cells #[.int .i64 1, .int .i64 0, .int .i64 0, .int .i64 0, .int .i64 0, .int .i64 2] 25)) w7.heap.size 1 0 0 0 0 2) := Lib.hid (Box6.made w7 1 0 0 0 0 2 25)
  replace hs := Lib.hid (hs.out.keep K ((Below.refl w7.heap.size w7).alloc (Nat.le_refl _) (.cells #[.int .i64 1, .int .i64 0, .int .i64 0, .int .i64 0, .int .i64 0, .int .i64 2] 25)))
  go_wp2_with fail
  have P := K.most hs.out.ca
  refine P.mono ?_
  clear P
  rintro e w8 ⟨he, hb⟩
  replace he : e = .returned (.int .i64 5) := he
  subst he
  replace hs := Lib.hid (hs.out.keep K hb)
  have bx' := Lib.hid (bx.out.keep hb)
  clear bx hb
  have bx := bx'
  clear bx'
  obtain ⟨y0, y1, y2, y3, y4, y5⟩ := bx.out
  go_wp2_with fail
  clear y0 y1 y2 y3 y4 y5
  have P := K.total hs.out.ca
  refine P.mono ?_
  clear P
  rintro e w9 ⟨he, hb⟩
  replace he : e = .returned (.int .i64 7) := he
  subst he
  replace hs := Lib.hid (hs.out.keep K hb)
  have bx' := Lib.hid (bx.out.keep hb)
  clear bx hb
  have bx := bx'
  clear bx'
  obtain ⟨y0, y1, y2, y3, y4, y5⟩ := bx.out
  go_wp2_with fail
  clear y0 y1 y2 y3 y4 y5
  have P := K.bound (w := w9) 1 0 0 0 0 2 0 (inI_lit _ (by decide)) (inI_lit _ (by decide)) (inI_lit _ (by decide)) (inI_lit _ (by decide)) (inI_lit _ (by decide)) (inI_lit _ (by decide)) (inI_lit _ (by decide))
  rw [b0] at P
  refine P.mono ?_
  clear P
  rintro e w10 ⟨rfl, hb⟩
  replace hs := Lib.hid (hs.out.keep K hb)
  have bx' := Lib.hid (bx.out.keep hb)
  clear bx hb
  have bx := bx'
  clear bx'
  obtain ⟨y0, y1, y2, y3, y4, y5⟩ := bx.out
  go_wp2_with fail
  clear y0 y1 y2 y3 y4 y5
  have P := K.bound (w := w10) 1 0 0 0 0 2 1 (inI_lit _ (by decide)) (inI_lit _ (by decide)) (inI_lit _ (by decide)) (inI_lit _ (by decide)) (inI_lit _ (by decide)) (inI_lit _ (by decide)) (inI_lit _ (by decide))
  rw [b1] at P
  refine P.mono ?_
  clear P
  rintro e w11 ⟨rfl, hb⟩
  replace hs := Lib.hid (hs.out.keep K hb)
  have bx' := Lib.hid (bx.out.keep hb)
  clear bx hb
  have bx := bx'
  clear bx'
  obtain ⟨y0, y1, y2, y3, y4, y5⟩ := bx.out
  go_wp2_with fail
  clear y0 y1 y2 y3 y4 y5
  have P := K.bound (w := w11) 1 0 0 0 0 2 2 (inI_lit _ (by decide)) (inI_lit _ (by decide)) (inI_lit _ (by decide)) (inI_lit _ (by decide)) (inI_lit _ (by decide)) (inI_lit _ (by decide)) (inI_lit _ (by decide))
  rw [b2] at P
  refine P.mono ?_
  clear P
  rintro e w12 ⟨rfl, hb⟩
  replace hs := Lib.hid (hs.out.keep K hb)
  have bx' := Lib.hid (bx.out.keep hb)
  clear bx hb
  have bx := bx'
  clear bx'
  obtain ⟨y0, y1, y2, y3, y4, y5⟩ := bx.out
  go_wp2_with fail
  clear y0 y1 y2 y3 y4 y5
  have P := K.bound (w := w12) 1 0 0 0 0 2 3 (inI_lit _ (by decide)) (inI_lit _ (by decide)) (inI_lit _ (by decide)) (inI_lit _ (by decide)) (inI_lit _ (by decide)) (inI_lit _ (by decide)) (inI_lit _ (by decide))
  rw [b3] at P
  refine P.mono ?_
  clear P
  rintro e w13 ⟨rfl, hb⟩
  replace hs := Lib.hid (hs.out.keep K hb)
  have bx' := Lib.hid (bx.out.keep hb)
  clear bx hb
  have bx := bx'
  clear bx'
  obtain ⟨y0, y1, y2, y3, y4, y5⟩ := bx.out
  go_wp2_with fail
  clear y0 y1 y2 y3 y4 y5
  have P := K.bound (w := w13) 1 0 0 0 0 2 9 (inI_lit _ (by decide)) (inI_lit _ (by decide)) (inI_lit _ (by decide)) (inI_lit _ (by decide)) (inI_lit _ (by decide)) (inI_lit _ (by decide)) (inI_lit _ (by decide))
  rw [b9] at P
  refine P.mono ?_
  clear P
  rintro e w14 ⟨rfl, hb⟩
  replace hs := Lib.hid (hs.out.keep K hb)
  have bx' := Lib.hid (bx.out.keep hb)
  clear bx hb
  have bx := bx'
  clear bx'
  obtain ⟨y0, y1, y2, y3, y4, y5⟩ := bx.out
  go_wp2_with fail
  clear y0 y1 y2 y3 y4 y5
  have P := K.bound (w := w14) 0 0 0 0 0 0 0 (inI_lit _ (by decide)) (inI_lit _ (by decide)) (inI_lit _ (by decide)) (inI_lit _ (by decide)) (inI_lit _ (by decide)) (inI_lit _ (by decide)) (inI_lit _ (by decide))
  rw [bz] at P
  refine P.mono ?_
  clear P
  rintro e w15 ⟨rfl, hb⟩
  replace hs := Lib.hid (hs.out.keep K hb)
  clear hb bx
  go_wp2
  go_ret
  exact ⟨rfl, hs.out.bel⟩
end Wd
end Go.Proofs.Ytafogggfiopcgaa
