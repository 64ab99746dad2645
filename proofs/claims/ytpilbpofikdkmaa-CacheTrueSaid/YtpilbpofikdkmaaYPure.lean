/- A cache of what was found, plainly; worlds that change but for some blocks; the document's own cache. -/
import Derived.Test.YtpilbpofikdkmaaRows
import Derived.WalkKit
import Derived.WalkSpells
import Derived.WalkLawsBesides
import Derived.Handy
import Derived.OwnWalk
import Derived.Below
import Derived.Lib.Hide
import Derived.BigQuiet
import Derived.Deep.RegionHeld
namespace Go.Proofs.Ytpilbpofikdkmaa
open Go.RowKit
set_option linter.unusedVariables false
set_option maxRecDepth 20000
namespace Wd
abbrev I64 (x : Int) : Prop := -9223372036854775808 ≤ x ∧ x ≤ 9223372036854775807
/-- but for the blocks F, and new ones, the world is as it was -/
structure Ch (F : Nat → Prop) (w w' : World) : Prop where
  os : w'.os = w.os
  tape : w'.tape = w.tape
  output : w'.output = w.output
  size : w.heap.size ≤ w'.heap.size
  block : ∀ k, k < w.heap.size → ¬ F k → w'.heap[k]? = w.heap[k]?
/-- F' has no block but those of F and new ones -/
def Newer (F F' : Nat → Prop) (s : Nat) : Prop := ∀ k, F' k → F k ∨ s ≤ k
theorem Ch.refl (F : Nat → Prop) (w : World) : Ch F w w := ⟨rfl, rfl, rfl, Nat.le_refl _, fun _ _ _ => rfl⟩
theorem Ch.trans {F : Nat → Prop} {w w1 w2 : World} (h : Ch F w w1) (g : Ch F w1 w2) : Ch F w w2 :=
  ⟨g.os.trans h.os, g.tape.trans h.tape, g.output.trans h.output, Nat.le_trans h.size g.size, fun k hk hf => (g.block k (Nat.lt_of_lt_of_le hk h.size) hf).trans (h.block k hk hf)⟩
theorem Ch.set {F : Nat → Prop} {w w1 : World} (h : Ch F w w1) (a : Addr) (ha : F a.block) (v : Value) : Ch F w (w1.setCell a v) :=
  ⟨h.os, h.tape, h.output, by simpa [World.setCell] using h.size, fun k hk hF => (Below.heap_setCell _ _ _ _ (fun e => hF (by rw [e]; exact ha))).trans (h.block k hk hF)⟩
theorem Ch.drew {F : Nat → Prop} {w w1 : World} (h : Ch F w w1) : Ch F w w1.drew := ⟨h.os, h.tape, h.output, h.size, h.block⟩
theorem below_ch {w wr w1 : World} {F : Nat → Prop} (h : Below w.heap.size w wr) (c : Ch F wr w1) (hF : ∀ k, F k → w.heap.size ≤ k) : Below w.heap.size w w1 :=
  ⟨c.os.trans h.os, c.tape.trans h.tape, c.output.trans h.output, Nat.le_trans h.size c.size, fun k hk => (c.block k (Nat.lt_of_lt_of_le hk h.size) (fun hf => by have := hF k hf; omega)).trans (h.block k hk)⟩
theorem below_toCh {w w' : World} (F : Nat → Prop) (b : Below w.heap.size w w') : Ch F w w' := ⟨b.os, b.tape, b.output, b.size, fun k hk _ => b.block k hk⟩
theorem cell_up {w w' : World} (g : Below w.heap.size w w') {p : Addr} {v : Value} (h : w.cell? p = some v) : w'.cell? p = some v :=
  (World.cell?_of_block (g.block p.block (World.block_lt_of_cell? w _ h))).trans h
/-- lines: a class, a name, a method -/
abbrev Ln := Nat → Option (Int × Int × Int)
structure Cst where
  L : Ln
  h : Nat
  m : Nat
def S0 : Cst := ⟨fun _ => none, 0, 0⟩
def lineR (c k : Int) : Nat := ((31 * c + k) % 32).toNat
theorem line_lt (c k : Int) : lineR c k < 32 := by unfold lineR; omega
def hasT (t : Option (Int × Int × Int)) (c k : Int) : Bool := match t with | some (a, b, _) => decide (a = c) && decide (b = k) | none => false
def metT (t : Option (Int × Int × Int)) (c k : Int) : Int := match t with | some (a, b, x) => if (decide (a = c) && decide (b = k)) = true then x else -1 | none => -1
def getB (S : Cst) (c k : Int) : Bool := hasT (S.L (lineR c k)) c k
def getM (S : Cst) (c k : Int) : Int := metT (S.L (lineR c k)) c k
def getS (S : Cst) (c k : Int) : Cst := if getB S c k = true then ⟨S.L, S.h + 1, S.m⟩ else ⟨S.L, S.h, S.m + 1⟩
def updL (L : Ln) (i : Nat) (t : Option (Int × Int × Int)) : Ln := fun j => if j = i then t else L j
def putS (S : Cst) (c k x : Int) : Cst := ⟨updL S.L (lineR c k) (some (c, k, x)), S.h, S.m⟩
def clrS (S : Cst) : Cst := ⟨fun _ => none, S.h, S.m⟩
def cntK (L : Ln) (k : Nat) : Nat := ((List.range k).filter (fun j => (L j).isSome)).length
def cntL (S : Cst) : Nat := cntK S.L 32
theorem cntK_le (L : Ln) (k : Nat) : cntK L k ≤ k := Nat.le_trans (List.length_filter_le _ _) (by simp)
theorem cntK_next (L : Ln) (k : Nat) : cntK L (k + 1) = cntK L k + (if (L k).isSome = true then 1 else 0) := by
  unfold cntK
  rw [List.range_succ, List.filter_append, List.length_append]
  by_cases h : (L k).isSome = true <;> simp [h]
theorem get_sum (S : Cst) (c k : Int) : (getS S c k).h + (getS S c k).m = S.h + S.m + 1 := by
  unfold getS
  split <;> simp <;> omega
/-- the document's own cache lies in block b; P: what its cells hold -/
structure RefP (w : World) (b : Nat) (P : Nat → Int × Int × Int) (S : Cst) : Prop where
  bd : ∀ k, I64 (P k).1 ∧ I64 (P k).2.1 ∧ I64 (P k).2.2
  ch : ∀ k, k < 32 → w.cell? ⟨b, k, none⟩ = some (.bool (S.L k).isSome)
  cc : ∀ k, k < 32 → w.cell? ⟨b, 32 + k, none⟩ = some (.int .i64 (P k).1)
  cs : ∀ k, k < 32 → w.cell? ⟨b, 64 + k, none⟩ = some (.int .i64 (P k).2.1)
  cm : ∀ k, k < 32 → w.cell? ⟨b, 96 + k, none⟩ = some (.int .i64 (P k).2.2)
  hh : w.cell? ⟨b, 128, none⟩ = some (.int .i64 (S.h : Nat))
  hm : w.cell? ⟨b, 129, none⟩ = some (.int .i64 (S.m : Nat))
  z : ∀ k, w.frozen? ⟨b, k, none⟩ = false
  pl : ∀ k t, S.L k = some t → P k = t
def RefC (w : World) (b : Nat) (S : Cst) : Prop := ∃ P, RefP w b P S
section
variable {w w' : World} {b : Nat} {P : Nat → Int × Int × Int} {S : Cst}
theorem RefP.lt (h : RefP w b P S) : b < w.heap.size := World.block_lt_of_cell? w _ h.hh
theorem RefP.same (h : RefP w b P S) (hb : w'.heap[b]? = w.heap[b]?) : RefP w' b P S :=
  ⟨h.bd, fun k hk => (World.cell?_of_block (a := ⟨b, k, none⟩) hb).trans (h.ch k hk), fun k hk => (World.cell?_of_block (a := ⟨b, 32 + k, none⟩) hb).trans (h.cc k hk), fun k hk => (World.cell?_of_block (a := ⟨b, 64 + k, none⟩) hb).trans (h.cs k hk), fun k hk => (World.cell?_of_block (a := ⟨b, 96 + k, none⟩) hb).trans (h.cm k hk), (World.cell?_of_block (a := ⟨b, 128, none⟩) hb).trans h.hh, (World.cell?_of_block (a := ⟨b, 129, none⟩) hb).trans h.hm, fun k => (World.frozen?_of_block (a := ⟨b, k, none⟩) hb).trans (h.z k), h.pl⟩
theorem RefP.keep (h : RefP w b P S) (g : Below w.heap.size w w') : RefP w' b P S := h.same (g.block b h.lt)
theorem RefC.lt (h : RefC w b S) : b < w.heap.size := by obtain ⟨P, h⟩ := h; exact h.lt
theorem RefC.same (h : RefC w b S) (hb : w'.heap[b]? = w.heap[b]?) : RefC w' b S := by obtain ⟨P, h⟩ := h; exact ⟨P, h.same hb⟩
theorem RefC.keep (h : RefC w b S) (g : Below w.heap.size w w') : RefC w' b S := by obtain ⟨P, h⟩ := h; exact ⟨P, h.keep g⟩
theorem RefC.hh (h : RefC w b S) : w.cell? ⟨b, 128, none⟩ = some (.int .i64 (S.h : Nat)) := by obtain ⟨P, h⟩ := h; exact h.hh
theorem RefC.hm (h : RefC w b S) : w.cell? ⟨b, 129, none⟩ = some (.int .i64 (S.m : Nat)) := by obtain ⟨P, h⟩ := h; exact h.hm
theorem ad_ne {b i j : Nat} (h : i ≠ j) : (⟨b, i, none⟩ : Addr) ≠ ⟨b, j, none⟩ := fun e => h (by cases e; rfl)
theorem RefP.hit (h : RefP w b P S) : RefP (w.setCell ⟨b, 128, none⟩ (.int .i64 ((S.h + 1 : Nat) : Int))) b P ⟨S.L, S.h + 1, S.m⟩ := by
  have far : ∀ {o : Nat}, 128 ≠ o → (w.setCell ⟨b, 128, none⟩ (.int .i64 ((S.h + 1 : Nat) : Int))).cell? ⟨b, o, none⟩ = w.cell? ⟨b, o, none⟩ := fun hne => World.cell?_setCell_other _ _ _ _ (ad_ne hne)
  exact ⟨h.bd, fun k hk => (far (by omega)).trans (h.ch k hk), fun k hk => (far (by omega)).trans (h.cc k hk), fun k hk => (far (by omega)).trans (h.cs k hk), fun k hk => (far (by omega)).trans (h.cm k hk), World.cell?_setCell_same _ _ _ h.hh, (far (by omega)).trans h.hm, fun k => (World.frozen?_setCell _ _ _ _).trans (h.z k), h.pl⟩
theorem RefP.miss (h : RefP w b P S) : RefP (w.setCell ⟨b, 129, none⟩ (.int .i64 ((S.m + 1 : Nat) : Int))) b P ⟨S.L, S.h, S.m + 1⟩ := by
  have far : ∀ {o : Nat}, 129 ≠ o → (w.setCell ⟨b, 129, none⟩ (.int .i64 ((S.m + 1 : Nat) : Int))).cell? ⟨b, o, none⟩ = w.cell? ⟨b, o, none⟩ := fun hne => World.cell?_setCell_other _ _ _ _ (ad_ne hne)
  exact ⟨h.bd, fun k hk => (far (by omega)).trans (h.ch k hk), fun k hk => (far (by omega)).trans (h.cc k hk), fun k hk => (far (by omega)).trans (h.cs k hk), fun k hk => (far (by omega)).trans (h.cm k hk), (far (by omega)).trans h.hh, World.cell?_setCell_same _ _ _ h.hm, fun k => (World.frozen?_setCell _ _ _ _).trans (h.z k), h.pl⟩
/-- four cells of a line are written -/
def four (w : World) (b i : Nat) (c k x : Int) : World := (((w.setCell ⟨b, i, none⟩ (.bool true)).setCell ⟨b, 32 + i, none⟩ (.int .i64 c)).setCell ⟨b, 64 + i, none⟩ (.int .i64 k)).setCell ⟨b, 96 + i, none⟩ (.int .i64 x)
theorem four_far {i o : Nat} {c k x : Int} (h0 : i ≠ o) (h1 : 32 + i ≠ o) (h2 : 64 + i ≠ o) (h3 : 96 + i ≠ o) : (four w b i c k x).cell? ⟨b, o, none⟩ = w.cell? ⟨b, o, none⟩ := by
  unfold four
  rw [World.cell?_setCell_other _ _ _ _ (ad_ne h3), World.cell?_setCell_other _ _ _ _ (ad_ne h2), World.cell?_setCell_other _ _ _ _ (ad_ne h1), World.cell?_setCell_other _ _ _ _ (ad_ne h0)]
theorem four_ch {i : Nat} {c k x : Int} : Ch (fun k => k = b) w (four w b i c k x) :=
  (((Ch.refl (fun k => k = b) w).set ⟨b, i, none⟩ (show b = b from rfl) (.bool true)).set ⟨b, 32 + i, none⟩ (show b = b from rfl) (.int .i64 c)).set ⟨b, 64 + i, none⟩ (show b = b from rfl) (.int .i64 k) |>.set ⟨b, 96 + i, none⟩ (show b = b from rfl) (.int .i64 x)
theorem RefP.four (h : RefP w b P S) {i : Nat} (hi : i < 32) {c k x : Int} (hc : I64 c) (hk : I64 k) (hx : I64 x) : RefP (four w b i c k x) b (fun j => if j = i then (c, k, x) else P j) ⟨updL S.L i (some (c, k, x)), S.h, S.m⟩ := by
  refine ⟨fun j => ?_, fun j hj => ?_, fun j hj => ?_, fun j hj => ?_, fun j hj => ?_, ?_, ?_, fun k => ?_, fun j t ht => ?_⟩
  · by_cases e : j = i
    · rw [if_pos e]; exact ⟨hc, hk, hx⟩
    · rw [if_neg e]; exact h.bd j
  · by_cases e : j = i
    · subst e
      unfold Wd.four
      rw [World.cell?_setCell_other _ _ _ _ (ad_ne (by omega)), World.cell?_setCell_other _ _ _ _ (ad_ne (by omega)), World.cell?_setCell_other _ _ _ _ (ad_ne (by omega)), World.cell?_setCell_same _ _ _ (h.ch j hj)]
      simp [updL]
    · rw [four_far (by omega) (by omega) (by omega) (by omega), h.ch j hj]
      simp [updL, e]
  · by_cases e : j = i
    · subst e
      unfold Wd.four
      rw [World.cell?_setCell_other _ _ _ _ (ad_ne (by omega)), World.cell?_setCell_other _ _ _ _ (ad_ne (by omega)), World.cell?_setCell_same _ _ _ (by rw [World.cell?_setCell_other _ _ _ _ (ad_ne (by omega))]; exact h.cc j hj)]
      simp
    · rw [four_far (by omega) (by omega) (by omega) (by omega), h.cc j hj]
      simp [e]
  · by_cases e : j = i
    · subst e
      unfold Wd.four
      rw [World.cell?_setCell_other _ _ _ _ (ad_ne (by omega)), World.cell?_setCell_same _ _ _ (by rw [World.cell?_setCell_other _ _ _ _ (ad_ne (by omega)), World.cell?_setCell_other _ _ _ _ (ad_ne (by omega))]; exact h.cs j hj)]
      simp
    · rw [four_far (by omega) (by omega) (by omega) (by omega), h.cs j hj]
      simp [e]
  · by_cases e : j = i
    · subst e
      unfold Wd.four
      rw [World.cell?_setCell_same _ _ _ (by rw [World.cell?_setCell_other _ _ _ _ (ad_ne (by omega)), World.cell?_setCell_other _ _ _ _ (ad_ne (by omega)), World.cell?_setCell_other _ _ _ _ (ad_ne (by omega))]; exact h.cm j hj)]
      simp
    · rw [four_far (by omega) (by omega) (by omega) (by omega), h.cm j hj]
      simp [e]
  · exact (four_far (by omega) (by omega) (by omega) (by omega)).trans h.hh
  · exact (four_far (by omega) (by omega) (by omega) (by omega)).trans h.hm
  · unfold Wd.four
    rw [World.frozen?_setCell, World.frozen?_setCell, World.frozen?_setCell, World.frozen?_setCell]
    exact h.z k
  · simp only [updL] at ht
    by_cases e : j = i
    · rw [if_pos e] at ht; cases ht; simp [e]
    · rw [if_neg e] at ht; simp only [if_neg e]; exact h.pl j t ht
end
end Wd
end Go.Proofs.Ytpilbpofikdkmaa
