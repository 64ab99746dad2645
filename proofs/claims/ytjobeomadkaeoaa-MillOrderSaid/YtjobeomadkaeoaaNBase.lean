/- The package's ring, in a seat without the document's own: how it lies in memory. -/
import Derived.Test.YtjobeomadkaeoaaMLaw
import Derived.Test.YtjobeomadkaeoaaRMath
import Derived.WalkKit
import Derived.WalkSpells
import Derived.WalkLawsBesides
import Derived.Handy
import Derived.Lib.Hide
import Derived.BigQuiet
import Derived.LoopN
namespace Go.Proofs.Ytjobeomadkaeoaa
open Go.RowKit
namespace Wd
def upd (f : Nat → Int) (a : Nat) (b : Int) : Nat → Int := fun k => if k = a then b else f k
theorem upd_same (f : Nat → Int) (a : Nat) (b : Int) : upd f a b a = b := if_pos rfl
theorem upd_ne (f : Nat → Int) {a k : Nat} (b : Int) (h : k ≠ a) : upd f a b k = f k := if_neg h
/-- may it be put in -/
def putOk (n : Nat) (L : List Int) (i a : Int) : Bool := decide (0 ≤ i ∧ i < n ∧ i ∉ L ∧ (a ∈ L ∨ (a = -1 ∧ L = [])))
/-- a ring of n places at block p: the row of those behind at g1, the row of those ahead at g2; m are in -/
structure RB (w : World) (p g1 g2 n : Nat) (f h : Nat → Int) (m : Int) : Prop where
  c0 : w.cell? ⟨p, 0, none⟩ = some (.slice (some ⟨g1, 0, none⟩) n n)
  c1 : w.cell? ⟨p, 1, none⟩ = some (.slice (some ⟨g2, 0, none⟩) n n)
  c2 : w.cell? ⟨p, 2, none⟩ = some (.int .i64 m)
  z0 : w.frozen? ⟨p, 2, none⟩ = false
  f1 : ∀ k, k < n → w.cell? ⟨g1, k, none⟩ = some (.int .i64 (f k))
  f2 : ∀ k, k < n → w.cell? ⟨g2, k, none⟩ = some (.int .i64 (h k))
  z1 : ∀ k, w.frozen? ⟨g1, k, none⟩ = false
  z2 : ∀ k, w.frozen? ⟨g2, k, none⟩ = false
  e1 : p ≠ g1
  e2 : p ≠ g2
  e3 : g1 ≠ g2
def FF (p g1 g2 : Nat) : Nat → Prop := fun k => k = p ∨ k = g1 ∨ k = g2
theorem RB.same {w w' : World} {p g1 g2 n : Nat} {f h : Nat → Int} {m : Int} (r : RB w p g1 g2 n f h m) (hb : ∀ k, FF p g1 g2 k → w'.heap[k]? = w.heap[k]?) : RB w' p g1 g2 n f h m := by
  have hp := hb p (Or.inl rfl)
  have h1 := hb g1 (Or.inr (Or.inl rfl))
  have h2 := hb g2 (Or.inr (Or.inr rfl))
  exact ⟨(World.cell?_of_block (a := ⟨p, 0, none⟩) hp).trans r.c0, (World.cell?_of_block (a := ⟨p, 1, none⟩) hp).trans r.c1, (World.cell?_of_block (a := ⟨p, 2, none⟩) hp).trans r.c2,
    (World.frozen?_of_block (a := ⟨p, 2, none⟩) hp).trans r.z0, fun k hk => (World.cell?_of_block (a := ⟨g1, k, none⟩) h1).trans (r.f1 k hk), fun k hk => (World.cell?_of_block (a := ⟨g2, k, none⟩) h2).trans (r.f2 k hk),
    fun k => (World.frozen?_of_block (a := ⟨g1, k, none⟩) h1).trans (r.z1 k), fun k => (World.frozen?_of_block (a := ⟨g2, k, none⟩) h2).trans (r.z2 k), r.e1, r.e2, r.e3⟩
theorem RB.set1 {w : World} {p g1 g2 n : Nat} {f h : Nat → Int} {m : Int} (r : RB w p g1 g2 n f h m) {a : Nat} (ha : a < n) (b : Int) : RB (w.setCell ⟨g1, a, none⟩ (.int .i64 b)) p g1 g2 n (upd f a b) h m := by
  have e1 := r.e1; have e3 := r.e3
  refine ⟨(World.cell?_setCell_far _ _ _ _ e1.symm).trans r.c0, (World.cell?_setCell_far _ _ _ _ e1.symm).trans r.c1, (World.cell?_setCell_far _ _ _ _ e1.symm).trans r.c2, by rw [World.frozen?_setCell]; exact r.z0, fun k hk => ?_,
    fun k hk => (World.cell?_setCell_far _ _ _ _ e3).trans (r.f2 k hk), fun k => by rw [World.frozen?_setCell]; exact r.z1 k, fun k => by rw [World.frozen?_setCell]; exact r.z2 k, r.e1, r.e2, r.e3⟩
  by_cases c : k = a
  · subst c; rw [upd_same]; exact World.cell?_setCell_same _ _ _ (r.f1 k hk)
  · rw [upd_ne _ _ c]; exact (World.cell?_setCell_other _ _ _ _ (by intro e; cases e; exact c rfl)).trans (r.f1 k hk)
theorem RB.set2 {w : World} {p g1 g2 n : Nat} {f h : Nat → Int} {m : Int} (r : RB w p g1 g2 n f h m) {a : Nat} (ha : a < n) (b : Int) : RB (w.setCell ⟨g2, a, none⟩ (.int .i64 b)) p g1 g2 n f (upd h a b) m := by
  have e2 := r.e2; have e3 := r.e3
  refine ⟨(World.cell?_setCell_far _ _ _ _ e2.symm).trans r.c0, (World.cell?_setCell_far _ _ _ _ e2.symm).trans r.c1, (World.cell?_setCell_far _ _ _ _ e2.symm).trans r.c2, by rw [World.frozen?_setCell]; exact r.z0,
    fun k hk => (World.cell?_setCell_far _ _ _ _ e3.symm).trans (r.f1 k hk), fun k hk => ?_, fun k => by rw [World.frozen?_setCell]; exact r.z1 k, fun k => by rw [World.frozen?_setCell]; exact r.z2 k, r.e1, r.e2, r.e3⟩
  by_cases c : k = a
  · subst c; rw [upd_same]; exact World.cell?_setCell_same _ _ _ (r.f2 k hk)
  · rw [upd_ne _ _ c]; exact (World.cell?_setCell_other _ _ _ _ (by intro e; cases e; exact c rfl)).trans (r.f2 k hk)
theorem RB.set3 {w : World} {p g1 g2 n : Nat} {f h : Nat → Int} {m : Int} (r : RB w p g1 g2 n f h m) (b : Int) : RB (w.setCell ⟨p, 2, none⟩ (.int .i64 b)) p g1 g2 n f h b := by
  have e1 := r.e1; have e2 := r.e2
  exact ⟨(World.cell?_setCell_other _ _ _ _ (by simp)).trans r.c0, (World.cell?_setCell_other _ _ _ _ (by simp)).trans r.c1, World.cell?_setCell_same _ _ _ r.c2, by rw [World.frozen?_setCell]; exact r.z0,
    fun k hk => (World.cell?_setCell_far _ _ _ _ e1).trans (r.f1 k hk), fun k hk => (World.cell?_setCell_far _ _ _ _ e2).trans (r.f2 k hk), fun k => by rw [World.frozen?_setCell]; exact r.z1 k, fun k => by rw [World.frozen?_setCell]; exact r.z2 k, r.e1, r.e2, r.e3⟩
theorem RB.lt {w : World} {p g1 g2 n : Nat} {f h : Nat → Int} {m : Int} (r : RB w p g1 g2 n f h m) (hn : 0 < n) : ∀ k, FF p g1 g2 k → k < w.heap.size := by
  rintro k (rfl | rfl | rfl)
  · exact World.block_lt_of_cell? w _ r.c0
  · exact World.block_lt_of_cell? w _ (r.f1 0 hn)
  · exact World.block_lt_of_cell? w _ (r.f2 0 hn)
theorem Ch.refl (F : Nat → Prop) (w : World) : Ch F w w := ⟨rfl, rfl, rfl, Nat.le_refl _, fun _ _ _ => rfl⟩
theorem Ch.trans {F : Nat → Prop} {w w1 w2 : World} (h : Ch F w w1) (g : Ch F w1 w2) : Ch F w w2 :=
  ⟨g.os.trans h.os, g.tape.trans h.tape, g.output.trans h.output, Nat.le_trans h.size g.size, fun k hk hF => (g.block k (Nat.lt_of_lt_of_le hk h.size) hF).trans (h.block k hk hF)⟩
theorem Ch.set {F : Nat → Prop} {w w1 : World} (h : Ch F w w1) (a : Addr) (ha : F a.block) (v : Value) : Ch F w (w1.setCell a v) :=
  ⟨h.os, h.tape, h.output, by simpa [World.setCell] using h.size, fun k hk hF => (Below.heap_setCell _ _ _ _ (fun e => hF (by rw [e]; exact ha))).trans (h.block k hk hF)⟩
theorem Ch.drew {F : Nat → Prop} {w w1 : World} (h : Ch F w w1) : Ch F w w1.drew := ⟨h.os, h.tape, h.output, h.size, h.block⟩
theorem RB.drew {w : World} {p g1 g2 n : Nat} {f h : Nat → Int} {m : Int} (r : RB w p g1 g2 n f h m) : RB w.drew p g1 g2 n f h m := r.same (fun _ _ => rfl)
/-- has -/
theorem has_c (i : Int) (p g1 g2 n : Nat) (f h : Nat → Int) (m : Int) (w : World) (r : RB w p g1 g2 n f h m) :
    Calls Try.prog 36 #[.pointer (some ⟨p, 0, none⟩), .int .i64 i] w fun e w' => e = .returned (.bool (decide (0 ≤ i ∧ i < n))) ∧ w' = w := by
  have c0 := r.c0
  replace r := Lib.hid r
  by_cases h0 : 0 ≤ i
  · by_cases h1 : i < n
    · have e : decide (0 ≤ i ∧ i < n) = true := by simp; omega
      rw [e]; clear e
      have h0' : decide (0 ≤ i) = true := by simpa using h0
      have h0'' : decide (i ≥ 0) = true := by simpa using h0
      have h1' : decide (i < (n : Int)) = true := by simpa using h1
      go_enter Try.func36, Try.ntmps36
      go_wp2
      go_ret
      exact ⟨by simp, rfl⟩
    · have e : decide (0 ≤ i ∧ i < n) = false := by simp; omega
      rw [e]; clear e
      have h0' : decide (0 ≤ i) = true := by simpa using h0
      have h0'' : decide (i ≥ 0) = true := by simpa using h0
      have h1' : decide (i < (n : Int)) = false := by simpa using h1
      go_enter Try.func36, Try.ntmps36
      go_wp2
      go_ret
      exact ⟨by simp, rfl⟩
  · have e : decide (0 ≤ i ∧ i < n) = false := by simp; omega
    rw [e]; clear e
    have h0' : decide (0 ≤ i) = false := by simpa using h0
    have h0'' : decide (i ≥ 0) = false := by simpa using h0
    go_enter Try.func36, Try.ntmps36
    go_wp2
    go_ret
    exact ⟨by simp, rfl⟩
/-- link -/
theorem link_c (a b : Nat) (p g1 g2 n : Nat) (f h : Nat → Int) (m : Int) (w : World) (r : RB w p g1 g2 n f h m) (ha : a < n) (hb : b < n) :
    Calls Try.prog 32 #[.pointer (some ⟨p, 0, none⟩), .int .i64 a, .int .i64 b] w fun e w' => e = .returned (.tuple #[]) ∧ RB w' p g1 g2 n (upd f a b) (upd h b a) m ∧ Ch (FF p g1 g2) w w' := by
  have c0 := r.c0
  have c1 := r.c1
  have ca := r.f1 a ha
  have cb := r.f2 b hb
  have za := r.z1 a
  have zb := r.z2 b
  have e1 := r.e1
  have e2 := r.e2
  have e3 := r.e3
  have x1 := Ne.symm e1
  have x2 := Ne.symm e2
  have x3 := Ne.symm e3
  replace r := Lib.hid r
  go_enter Try.func32, Try.ntmps32
  go_wp2
  go_end0
  exact ⟨rfl, (r.out.set1 ha b).set2 hb a, ((Ch.refl _ _).set _ (Or.inr (Or.inl rfl)) _).set _ (Or.inr (Or.inr rfl)) _⟩
end Wd
end Go.Proofs.Ytjobeomadkaeoaa
