/- The tape: what it is, what a number read off it is. -/
import Derived.Test.YthlijmdohejheaaMBase
import Derived.StillTailTactics
import Derived.BigRegion
namespace Go.Proofs.Ythlijmdohejheaa
open Go.RowKit
set_option linter.unusedVariables false
set_option maxRecDepth 20000
namespace Wd
/-- w' is w, but for the blocks of F and new ones -/
structure Cg (F : Nat → Prop) (w w' : World) : Prop where
  os : w'.os = w.os
  tape : w'.tape = w.tape
  output : w'.output = w.output
  size : w.heap.size ≤ w'.heap.size
  block : ∀ k, k < w.heap.size → ¬ F k → w'.heap[k]? = w.heap[k]?
section
variable {F G : Nat → Prop} {w w1 w2 : World}
theorem Cg.refl (F : Nat → Prop) (w : World) : Cg F w w := ⟨rfl, rfl, rfl, Nat.le_refl _, fun _ _ _ => rfl⟩
theorem Cg.trans (h : Cg F w w1) (g : Cg F w1 w2) : Cg F w w2 :=
  ⟨g.os.trans h.os, g.tape.trans h.tape, g.output.trans h.output, Nat.le_trans h.size g.size, fun k hk hF => (g.block k (Nat.lt_of_lt_of_le hk h.size) hF).trans (h.block k hk hF)⟩
theorem Cg.mono (h : Cg F w w1) (hFG : ∀ k, F k → G k) : Cg G w w1 := ⟨h.os, h.tape, h.output, h.size, fun k hk hn => h.block k hk (fun hF => hn (hFG k hF))⟩
/-- new blocks may be turned too -/
theorem Cg.trans' (h : Cg F w w1) (g : Cg G w1 w2) (hG : ∀ k, G k → F k ∨ w.heap.size ≤ k) : Cg F w w2 :=
  ⟨g.os.trans h.os, g.tape.trans h.tape, g.output.trans h.output, Nat.le_trans h.size g.size, fun k hk hF => (g.block k (Nat.lt_of_lt_of_le hk h.size) (fun hg => by
    rcases hG k hg with h1 | h1
    · exact hF h1
    · omega)).trans (h.block k hk hF)⟩
theorem Cg.set (h : Cg F w w1) (a : Addr) (ha : F a.block) (v : Value) : Cg F w (w1.setCell a v) :=
  ⟨h.os, h.tape, h.output, by simpa [World.setCell] using h.size, fun k hk hF => (Below.heap_setCell _ _ _ _ (fun e => hF (by rw [e]; exact ha))).trans (h.block k hk hF)⟩
theorem Cg.drew (h : Cg F w w1) : Cg F w w1.drew := ⟨h.os, h.tape, h.output, h.size, h.block⟩
theorem Cg.alloc (h : Cg F w w1) (o : Obj) : Cg F w (w1.alloc o) :=
  ⟨h.os, h.tape, h.output, by have := h.size; simp; omega, fun k hk hF => (Below.heap_alloc _ _ _ (Nat.lt_of_lt_of_le hk h.size)).trans (h.block k hk hF)⟩
theorem Cg.below (F : Nat → Prop) (b : Below w.heap.size w w1) : Cg F w w1 := ⟨b.os, b.tape, b.output, b.size, fun k hk _ => b.block k hk⟩
theorem Cg.grown (h : Cg F w w1) {r : Option Nat} (g : w1.grownBy w2 r) (hr : ∀ k, r = some k → F k ∨ w.heap.size ≤ k) : Cg F w w2 :=
  ⟨g.os.trans h.os, g.tape.trans h.tape, g.output.trans h.output, Nat.le_trans h.size g.size, fun k hk hF => (g.block k (Nat.lt_of_lt_of_le hk h.size) (fun e => by
    rcases hr k e.symm with h1 | h1
    · exact hF h1
    · omega)).trans (h.block k hk hF)⟩
theorem Cg.toBelow (h : Cg F w w1) (hF : ∀ k, F k → w.heap.size ≤ k) : Below w.heap.size w w1 :=
  ⟨h.os, h.tape, h.output, h.size, fun k hk => h.block k hk (fun e => by have := hF k e; omega)⟩
end
theorem drewK (w : World) (q : Nat) : Below w.heap.size w (w.drewN q) := ⟨rfl, rfl, rfl, Nat.le_refl _, fun _ _ => rfl⟩
/-- a tape at block p: its numbers lie at ad, n of them -/
structure Tp (w : World) (p : Nat) (ad : Option Addr) (n : Nat) : Prop where
  l : ∃ cap, w.cell? ⟨p, 0, none⟩ = some (.slice ad n cap)
  a : ∃ k : Nat, k ≤ n ∧ w.cell? ⟨p, 1, none⟩ = some (.int .i64 k)
  z : w.frozen? ⟨p, 1, none⟩ = false
  r : ∀ k, k < n → ∃ (g off : Nat) (x : Int), ad = some ⟨g, off, none⟩ ∧ g ≠ p ∧ (-9223372036854775808 ≤ x ∧ x ≤ 9223372036854775807) ∧ w.cell? ⟨g, off + k, none⟩ = some (.int .i64 x)
  big : n ≤ 4611686018427387904
section
variable {w w1 : World} {p n : Nat} {ad : Option Addr}
theorem Tp.lt (h : Tp w p ad n) : p < w.heap.size := World.block_lt_of_cell? w _ h.l.choose_spec
/-- the blocks that a tape lies in -/
def TF (p n : Nat) (ad : Option Addr) : Nat → Prop := fun k => k = p ∨ (0 < n ∧ ∃ a, ad = some a ∧ k = a.block)
theorem Tp.same (h : Tp w p ad n) (hb : ∀ k, k < w.heap.size → TF p n ad k → w1.heap[k]? = w.heap[k]?) : Tp w1 p ad n := by
  have hp := hb p h.lt (Or.inl rfl)
  obtain ⟨cap, hl⟩ := h.l
  obtain ⟨k, hk, ha⟩ := h.a
  refine ⟨⟨cap, (World.cell?_of_block (a := ⟨p, 0, none⟩) hp).trans hl⟩, ⟨k, hk, (World.cell?_of_block (a := ⟨p, 1, none⟩) hp).trans ha⟩, (World.frozen?_of_block (a := ⟨p, 1, none⟩) hp).trans h.z, fun j hj => ?_, h.big⟩
  obtain ⟨g, off, x, e, ne, bd, hc⟩ := h.r j hj
  exact ⟨g, off, x, e, ne, bd, (World.cell?_of_block (a := ⟨g, off + j, none⟩) (hb g (World.block_lt_of_cell? w _ hc) (Or.inr ⟨by omega, _, e, rfl⟩))).trans hc⟩
theorem Tp.cg (h : Tp w p ad n) {F : Nat → Prop} (c : Cg F w w1) (hF : ∀ k, F k → ¬ TF p n ad k) : Tp w1 p ad n := h.same (fun k hk ht => c.block k hk (fun hf => hF k hf ht))
theorem Tp.tf (h : Tp w p ad n) {k : Nat} (hk : TF p n ad k) : k < w.heap.size := by
  rcases hk with rfl | ⟨hn, a, rfl, rfl⟩
  · exact h.lt
  · obtain ⟨g, off, x, e, _, _, hc⟩ := h.r 0 hn
    cases e
    exact World.block_lt_of_cell? w _ hc
theorem Tp.keep (h : Tp w p ad n) (b : Below w.heap.size w w1) : Tp w1 p ad n := h.same (fun k hk _ => b.block k hk)
theorem Tp.move (h : Tp w p ad n) {k : Nat} (hk : k ≤ n) : Tp (w.setCell ⟨p, 1, none⟩ (.int .i64 (k : Int))) p ad n := by
  obtain ⟨cap, hl⟩ := h.l
  obtain ⟨k0, _, ha⟩ := h.a
  refine ⟨⟨cap, (World.cell?_setCell_other _ _ _ _ (by intro e; cases e)).trans hl⟩, ⟨k, hk, World.cell?_setCell_same _ _ _ ha⟩, (World.frozen?_setCell _ _ _ _).trans h.z, fun j hj => ?_, h.big⟩
  obtain ⟨g, off, x, e, ne, bd, hc⟩ := h.r j hj
  exact ⟨g, off, x, e, ne, bd, (World.cell?_setCell_far _ _ _ _ (Ne.symm ne)).trans hc⟩
end
set_option maxHeartbeats 16000000 in
theorem within40_c (n lo hi : Int) (h1 : -9223372036854775808 ≤ n) (h2 : n ≤ 9223372036854775807) (h3 : -1099511627776 ≤ lo) (h4 : lo ≤ hi) (h5 : hi ≤ 1099511627776) (w : World) :
    Calls Try.prog 13 #[.int .i64 n, .int .i64 lo, .int .i64 hi] w fun e w' => e = .returned (.int .i64 (within n lo hi)) ∧ w' = w := by
  by_cases c1 : lo ≤ n
  · by_cases c2 : n ≤ hi
    · have e : within n lo hi = n := if_pos ⟨c1, c2⟩
      rw [e]
      go_enter Try.func13, Try.ntmps13
      go_wp2
      go_ret
      exact ⟨rfl, rfl⟩
    · have e : within n lo hi = lo + n % (hi - lo + 1) := if_neg (fun h => c2 h.2)
      obtain ⟨r, hr, r1, r2, ⟨r3, r4⟩ | ⟨r3, r4⟩⟩ := tmod_split n (hi - lo + 1) (by omega)
      all_goals
        rw [r4] at e
        rw [e]; clear e r4
        go_enter Try.func13, Try.ntmps13
        go_wp2
        go_ret
        exact ⟨by first | rfl | (refine congrArg Ending.returned (congrArg (Value.int .i64) ?_); omega), rfl⟩
  · have e : within n lo hi = lo + n % (hi - lo + 1) := if_neg (fun h => c1 h.1)
    obtain ⟨r, hr, r1, r2, ⟨r3, r4⟩ | ⟨r3, r4⟩⟩ := tmod_split n (hi - lo + 1) (by omega)
    all_goals
      rw [r4] at e
      rw [e]; clear e r4
      go_enter Try.func13, Try.ntmps13
      go_wp2
      go_ret
      exact ⟨by first | rfl | (refine congrArg Ending.returned (congrArg (Value.int .i64) ?_); omega), rfl⟩
set_option maxHeartbeats 16000000 in
/-- a number off a tape -/
theorem next_c {w : World} {p n : Nat} {ad : Option Addr} (m : Int) (m1 : 1 ≤ m) (m2 : m ≤ 1000000) (h : Tp w p ad n) :
    Calls Try.prog 20 #[.pointer (some ⟨p, 0, none⟩), .int .i64 m] w fun e w' => ∃ x : Int, e = .returned (.int .i64 x) ∧ (0 ≤ x ∧ x < m) ∧ Tp w' p ad n ∧ Cg (fun k => k = p) w w' := by
  obtain ⟨cap, hl⟩ := h.l
  obtain ⟨k, hk, ha⟩ := h.a
  have hz := h.z
  have dm : decide (m < 1) = false := by simp; omega
  have hbig := h.big
  by_cases hkn : k < n
  · have d0 : decide (n ≤ k) = false := by simp; omega
    obtain ⟨g, off, x, rfl, ne, bd, hc⟩ := h.r k hkn
    have hw : IntKind.i64.wrap ((k : Int) + 1) = (k : Int) + 1 := by rw [IntKind.wrap_i64]; omega
    have hw2 : IntKind.i64.wrap (k : Int) = (k : Int) := by rw [IntKind.wrap_i64]; omega
    have hk1 : (k : Int) < (n : Int) := by omega
    have hx := within_bd x 0 1073741824 (by omega)
    have PW := Lib.hid (within40_c x 0 1073741824 bd.1 bd.2 (by omega) (by omega) (by omega))
    generalize within x 0 1073741824 = y at *
    have hy0 : 0 ≤ y.tmod m := Int.tmod_nonneg _ hx.1
    have hy1 : y.tmod m < m := Int.tmod_lt_of_pos _ (by omega)
    have hm0 : ¬ m = 0 := by omega
    replace h := Lib.hid h
    go_enter Try.func20, Try.ntmps20
    go_wp2
    go_big_quiet (fail)
    have hC0 := Cg.below (fun j => j = p) (drewK w nq)
    have hT0 := h.out.keep (drewK w nq)
    have hl0 : (w.drewN nq).cell? ⟨p, 0, none⟩ = some (.slice (some ⟨g, off, none⟩) n cap) := hl
    have ha0 : (w.drewN nq).cell? ⟨p, 1, none⟩ = some (.int .i64 (k : Int)) := ha
    have hz0 : (w.drewN nq).frozen? ⟨p, 1, none⟩ = false := hz
    have hc0 : (w.drewN nq).cell? ⟨g, off + k, none⟩ = some (.int .i64 x) := hc
    clear hl ha hz hc h
    generalize w.drewN nq = wq at *
    go_wp2
    have hT := hT0.move (k := k + 1) (by omega)
    have hC := hC0.set ⟨p, 1, none⟩ rfl (.int .i64 ((k + 1 : Nat) : Int))
    have ek : ((k + 1 : Nat) : Int) = (k : Int) + 1 := by omega
    rw [ek] at hT hC
    have c0 : (wq.setCell ⟨p, 1, none⟩ (.int .i64 ((k : Int) + 1))).cell? ⟨p, 0, none⟩ = some (.slice (some ⟨g, off, none⟩) n cap) := (World.cell?_setCell_other _ _ _ _ (by intro e; cases e)).trans hl0
    have c1 : (wq.setCell ⟨p, 1, none⟩ (.int .i64 ((k : Int) + 1))).cell? ⟨p, 1, none⟩ = some (.int .i64 ((k : Int) + 1)) := World.cell?_setCell_same _ _ _ ha0
    have c2 : (wq.setCell ⟨p, 1, none⟩ (.int .i64 ((k : Int) + 1))).cell? ⟨g, off + k, none⟩ = some (.int .i64 x) := (World.cell?_setCell_far _ _ _ _ (Ne.symm ne)).trans hc0
    clear hl0 ha0 hz0 hc0 hT0 hC0
    generalize wq.setCell ⟨p, 1, none⟩ (.int .i64 ((k : Int) + 1)) = w2 at *
    refine wp_region_still_lit (by kernel_rfl) (by kernel_rfl) ?_
    iterate 11 still_step
    still_call (PW.out _)
    iterate 3 still_step
    refine wpStill_nil ?_
    go_wp2
    go_ret
    exact ⟨_, rfl, ⟨hy0, hy1⟩, hT.keep (Below.refl _ _).drew, hC.drew⟩
  · have d0 : decide (n ≤ k) = true := by simp; omega
    replace h := Lib.hid h
    go_enter Try.func20, Try.ntmps20
    go_wp2
    go_big_quiet (fail)
    have hC0 := Lib.hid (Cg.below (fun j => j = p) (drewK w nq))
    have hT0 := Lib.hid (h.out.keep (drewK w nq))
    generalize w.drewN nq = wq at *
    go_wp2
    go_ret
    exact ⟨0, rfl, ⟨by omega, by omega⟩, hT0.out, hC0.out⟩
end Wd
end Go.Proofs.Ythlijmdohejheaa
