/- What the laws ask of a pace, whoever keeps it; the chapter's runs. -/
import Derived.Test.YtgbhhejoglpboaaPBase
namespace Go.Proofs.Ytgbhhejoglpboaa
open Go.RowKit
set_option linter.unusedVariables false
namespace Wd
/-- w' is w, but for the blocks of F and new ones -/
structure Ch (F : Nat → Prop) (w w' : World) : Prop where
  os : w'.os = w.os
  tape : w'.tape = w.tape
  output : w'.output = w.output
  size : w.heap.size ≤ w'.heap.size
  block : ∀ k, k < w.heap.size → ¬ F k → w'.heap[k]? = w.heap[k]?
/-- a pace is held between 1 and 16 -/
def clampK (k : Int) : Int := max (min k 16) 1
/-- words are held between 0 and 2^20 -/
def held (x : Int) : Int := max (min x 1048576) 0
def giveD (k d x : Int) : Int := min (d + k * held x) 1099511627776
def didD (d x : Int) : Int := max (d - held x) 0
theorem clamp_bd (k : Int) : 1 ≤ clampK k ∧ clampK k ≤ 16 := by unfold clampK; omega
theorem held_bd (x : Int) : 0 ≤ held x ∧ held x ≤ 1048576 := by unfold held; omega
theorem prod_bd {k h : Int} (k1 : 1 ≤ k) (k2 : k ≤ 16) (h0 : 0 ≤ h) : h ≤ k * h ∧ k * h ≤ 16 * h := by
  constructor
  · have := Int.mul_le_mul_of_nonneg_right k1 h0; omega
  · exact Int.mul_le_mul_of_nonneg_right k2 h0
abbrev PAt := World → Nat → Int → Int → (Nat → Prop) → Prop
/-- what the laws ask of the package's pace: 'PA w p k d F': at block p lies a pace k with the debt d; it lies in the blocks F -/
structure PaceK (PA : PAt) : Prop where
  lt : ∀ {w p k d F}, PA w p k d F → ∀ b, F b → b < w.heap.size
  keep : ∀ {w w' p k d F}, PA w p k d F → (∀ b, F b → w'.heap[b]? = w.heap[b]?) → PA w' p k d F
  bd : ∀ {w p k d F}, PA w p k d F → 1 ≤ k ∧ k ≤ 16 ∧ 0 ≤ d ∧ d ≤ 1099511627776
  new : ∀ {w} (k : Int), (-9223372036854775808 ≤ k) → (k ≤ 9223372036854775807) → Calls Try.prog 10 #[.int .i64 k] w fun e w' => ∃ p F, e = .returned (.pointer (some ⟨p, 0, none⟩)) ∧ PA w' p (clampK k) 0 F ∧ (∀ b, F b → w.heap.size ≤ b) ∧ Below w.heap.size w w'
  give : ∀ {w p k d F} (x : Int), PA w p k d F → (-9223372036854775808 ≤ x) → (x ≤ 9223372036854775807) → Calls Try.prog 11 #[.pointer (some ⟨p, 0, none⟩), .int .i64 x] w fun e w' => e = .returned (.int .i64 (giveD k d x)) ∧ PA w' p k (giveD k d x) F ∧ Ch F w w'
  did : ∀ {w p k d F} (x : Int), PA w p k d F → (-9223372036854775808 ≤ x) → (x ≤ 9223372036854775807) → Calls Try.prog 12 #[.pointer (some ⟨p, 0, none⟩), .int .i64 x] w fun e w' => e = .returned (.tuple #[]) ∧ PA w' p k (didD d x) F ∧ Ch F w w'
  debt : ∀ {w p k d F}, PA w p k d F → Calls Try.prog 13 #[.pointer (some ⟨p, 0, none⟩)] w fun e w' => e = .returned (.int .i64 d) ∧ Below w.heap.size w w'
  rest : ∀ {w p k d F}, PA w p k d F → Calls Try.prog 14 #[.pointer (some ⟨p, 0, none⟩)] w fun e w' => e = .returned (.tuple #[]) ∧ PA w' p k 0 F ∧ Ch F w w'
/-- the package's pace, of the call's own -/
structure PS (PA : PAt) (w0 wr : World) (p : Nat) (k d : Int) (F : Nat → Prop) : Prop where
  pa : PA wr p k d F
  bel : Below w0.heap.size w0 wr
  fF : ∀ b, F b → w0.heap.size ≤ b
section
variable {PA : PAt} {w0 wr w1 : World} {p : Nat} {k d d' : Int} {F : Nat → Prop}
theorem PS.keep (K : PaceK PA) (h : PS PA w0 wr p k d F) (g : Below wr.heap.size wr w1) : PS PA w0 w1 p k d F :=
  ⟨K.keep h.pa (fun b hb => g.block b (K.lt h.pa b hb)), h.bel.trans (g.mono h.bel.size), h.fF⟩
theorem PS.ch (h : PS PA w0 wr p k d F) (hp : PA w1 p k d' F) (c : Ch F wr w1) : PS PA w0 w1 p k d' F :=
  ⟨hp, h.bel.trans ⟨c.os, c.tape, c.output, c.size, fun b hb => c.block b (Nat.lt_of_lt_of_le hb h.bel.size) (fun hF => by have := h.fF b hF; omega)⟩, h.fF⟩
end
set_option maxHeartbeats 8000000 in
theorem known_c {PA : PAt} (K : PaceK PA) (w : World) :
    Calls Try.prog 9 #[] w fun e w' => e = .returned (.bool true) ∧ Below w.heap.size w w' := by
  have z0 : clampK 2 = 2 := by decide
  have z1 : giveD 2 0 4 = 8 := by decide
  have z2 : didD 8 3 = 5 := by decide
  have z3 : didD 5 99 = 0 := by decide
  have z4 : giveD 2 0 (-1) = 0 := by decide
  go_enter Try.func9, Try.ntmps9
  go_wp2_with fail
  refine (K.new 2 (by omega) (by omega)).mono ?_
  rintro e w1 ⟨p, F, rfl, hp, hF, hb⟩
  have hs : PS PA w w1 p 2 0 F := ⟨z0 ▸ hp, hb, hF⟩
  replace hs := Lib.hid hs
  clear hp hF hb
  go_wp2_with fail
  have P := K.give 4 hs.out.pa (by omega) (by omega)
  rw [z1] at P
  refine P.mono ?_
  clear P
  rintro e w2 ⟨rfl, hp, hc⟩
  replace hs := Lib.hid (hs.out.ch hp hc)
  clear hp hc
  go_wp2_with fail
  have P := K.did 3 hs.out.pa (by omega) (by omega)
  rw [z2] at P
  refine P.mono ?_
  clear P
  rintro e w3 ⟨rfl, hp, hc⟩
  replace hs := Lib.hid (hs.out.ch hp hc)
  clear hp hc
  go_wp2_with fail
  refine (K.debt hs.out.pa).mono ?_
  rintro e w4 ⟨rfl, hb⟩
  replace hs := Lib.hid (hs.out.keep K hb)
  clear hb
  go_wp2_with fail
  have P := K.did 99 hs.out.pa (by omega) (by omega)
  rw [z3] at P
  refine P.mono ?_
  clear P
  rintro e w5 ⟨rfl, hp, hc⟩
  replace hs := Lib.hid (hs.out.ch hp hc)
  clear hp hc
  go_wp2_with fail
  refine (K.debt hs.out.pa).mono ?_
  rintro e w6 ⟨rfl, hb⟩
  replace hs := Lib.hid (hs.out.keep K hb)
  clear hb
  go_wp2_with fail
  have P := K.give (-1) hs.out.pa (by omega) (by omega)
  rw [z4] at P
  refine P.mono ?_
  clear P
  rintro e w7 ⟨rfl, hp, hc⟩
  replace hs := Lib.hid (hs.out.ch hp hc)
  clear hp hc
  go_wp2_with fail
  refine (K.give 5 hs.out.pa (by omega) (by omega)).mono ?_
  rintro e w8 ⟨rfl, hp, hc⟩
  replace hs := Lib.hid (hs.out.ch hp hc)
  clear hp hc
  go_wp2_with fail
  refine (K.rest hs.out.pa).mono ?_
  rintro e w9 ⟨rfl, hp, hc⟩
  replace hs := Lib.hid (hs.out.ch hp hc)
  clear hp hc
  go_wp2_with fail
  refine (K.debt hs.out.pa).mono ?_
  rintro e w10 ⟨rfl, hb⟩
  replace hs := Lib.hid (hs.out.keep K hb)
  clear hb
  go_wp2
  go_ret
  exact ⟨rfl, hs.out.bel⟩
end Wd
end Go.Proofs.Ytgbhhejoglpboaa
