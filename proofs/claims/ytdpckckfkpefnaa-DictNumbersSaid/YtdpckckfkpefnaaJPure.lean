/- A dict of names, plainly; worlds that change but for some blocks. -/
import Derived.Test.YtdpckckfkpefnaaRows
import Derived.WalkKit
import Derived.WalkSpells
import Derived.WalkLawsBesides
import Derived.Handy
import Derived.OwnWalk
import Derived.Below
import Derived.Lib.Hide
import Derived.BigQuiet
import Derived.Deep.RegionHeld
namespace Go.Proofs.Ytdpckckfkpefnaa
open Go.RowKit
set_option linter.unusedVariables false
set_option maxRecDepth 20000
namespace Wd
abbrev I64 (x : Int) : Prop := -9223372036854775808 ≤ x ∧ x ≤ 9223372036854775807
/-- but for the blocks F, and new ones, the world is as it was -/
structure Ch (F : Nat → Prop) (w w' : World) : Prop where
  os : w'.os = w.os
  tape : w'.tape = w.tape
  output : w'.output = w.output
  size : w.heap.size ≤ w'.heap.size
  block : ∀ k, k < w.heap.size → ¬ F k → w'.heap[k]? = w.heap[k]?
/-- F' has no block but those of F and new ones -/
def Newer (F F' : Nat → Prop) (s : Nat) : Prop := ∀ k, F' k → F k ∨ s ≤ k
theorem Ch.refl (F : Nat → Prop) (w : World) : Ch F w w := ⟨rfl, rfl, rfl, Nat.le_refl _, fun _ _ _ => rfl⟩
theorem Ch.set {F : Nat → Prop} {w w1 : World} (h : Ch F w w1) (a : Addr) (ha : F a.block) (v : Value) : Ch F w (w1.setCell a v) :=
  ⟨h.os, h.tape, h.output, by simpa [World.setCell] using h.size, fun k hk hF => (Below.heap_setCell _ _ _ _ (fun e => hF (by rw [e]; exact ha))).trans (h.block k hk hF)⟩
theorem Ch.drew {F : Nat → Prop} {w w1 : World} (h : Ch F w w1) : Ch F w w1.drew := ⟨h.os, h.tape, h.output, h.size, h.block⟩
theorem below_ch {w wr w1 : World} {F : Nat → Prop} (h : Below w.heap.size w wr) (c : Ch F wr w1) (hF : ∀ k, F k → w.heap.size ≤ k) : Below w.heap.size w w1 :=
  ⟨c.os.trans h.os, c.tape.trans h.tape, c.output.trans h.output, Nat.le_trans h.size c.size, fun k hk => (c.block k (Nat.lt_of_lt_of_le hk h.size) (fun hf => by have := hF k hf; omega)).trans (h.block k hk)⟩
theorem cell_up {w w' : World} (g : Below w.heap.size w w') {p : Addr} {v : Value} (h : w.cell? p = some v) : w'.cell? p = some v :=
  (World.cell?_of_block (g.block p.block (World.block_lt_of_cell? w _ h))).trans h
/-- sixteen places: a name (below 0: none), a method -/
abbrev Dst := List (Int × Int)
def D0 : Dst := List.replicate 16 (-1, 0)
def plc (sel : Int) (k : Nat) : Nat := (sel.toNat % 16 * 7 + k) % 16
def selA (D : Dst) (i : Nat) : Int := (D.getD i (-1, 0)).1
def metA (D : Dst) (i : Nat) : Int := (D.getD i (-1, 0)).2
def findF (D : Dst) (sel : Int) : Nat → Nat → Int × Int
  | 0, _ => (-1, 4)
  | f + 1, k => if selA D (plc sel k) = sel then (metA D (plc sel k), (k : Int) + 1) else if selA D (plc sel k) < 0 then (-1, (k : Int) + 1) else findF D sel f (k + 1)
def findD (D : Dst) (sel : Int) : Int × Int := if sel < 0 then (-1, 0) else findF D sel 4 0
def putF (D : Dst) (sel : Int) : Nat → Nat → Option Nat
  | 0, _ => none
  | f + 1, k => if selA D (plc sel k) = sel ∨ selA D (plc sel k) < 0 then some (plc sel k) else putF D sel f (k + 1)
def putP (D : Dst) (sel : Int) : Option Nat := if sel < 0 then none else putF D sel 4 0
def putB (D : Dst) (sel : Int) : Bool := (putP D sel).isSome
def putD (D : Dst) (sel met : Int) : Dst := match putP D sel with | some i => D.set i (sel, met) | none => D
def cnt (D : Dst) : Nat := (D.filter (fun x => decide (0 ≤ x.1))).length
def ofD : List (Int × Int) → Dst → Option Dst
  | [], D => some D
  | b :: B, D => if putB D b.1 = true then ofD B (putD D b.1 b.2) else none
theorem plc_lt (sel : Int) (k : Nat) : plc sel k < 16 := Nat.mod_lt _ (by omega)
theorem putF_lt {D : Dst} {sel : Int} : ∀ (f k : Nat) {i : Nat}, putF D sel f k = some i → i < 16
  | 0, _, _, h => by simp [putF] at h
  | f + 1, k, i, h => by
    unfold putF at h
    split at h
    · cases h; exact plc_lt _ _
    · exact putF_lt f (k + 1) h
theorem putP_lt {D : Dst} {sel : Int} {i : Nat} (h : putP D sel = some i) : i < 16 := by
  unfold putP at h
  split at h
  · cases h
  · exact putF_lt _ _ h
theorem putD_len {D : Dst} (h : D.length = 16) (sel met : Int) : (putD D sel met).length = 16 := by
  unfold putD
  split
  · simp [h]
  · exact h
theorem cnt_le (D : Dst) : cnt D ≤ D.length := List.length_filter_le _ _
theorem sel_set {D : Dst} (hl : D.length = 16) {i : Nat} (hi : i < 16) (x y : Int) (k : Nat) : selA (D.set i (x, y)) k = if k = i then x else selA D k := by
  unfold selA
  simp only [List.getD_eq_getElem?_getD, List.getElem?_set]
  by_cases h : k = i
  · subst h; rw [if_pos rfl, if_pos (by omega), if_pos rfl]; rfl
  · rw [if_neg (fun e => h e.symm), if_neg h]
theorem met_set {D : Dst} (hl : D.length = 16) {i : Nat} (hi : i < 16) (x y : Int) (k : Nat) : metA (D.set i (x, y)) k = if k = i then y else metA D k := by
  unfold metA
  simp only [List.getD_eq_getElem?_getD, List.getElem?_set]
  by_cases h : k = i
  · subst h; rw [if_pos rfl, if_pos (by omega), if_pos rfl]; rfl
  · rw [if_neg (fun e => h e.symm), if_neg h]
/-- the document's own dict lies in block b -/
structure RefD (w : World) (b : Nat) (D : Dst) : Prop where
  len : D.length = 16
  bs : ∀ k, k < 16 → I64 (selA D k)
  bm : ∀ k, k < 16 → I64 (metA D k)
  cs : ∀ k, k < 16 → w.cell? ⟨b, k, none⟩ = some (.int .i64 (selA D k))
  cm : ∀ k, k < 16 → w.cell? ⟨b, 16 + k, none⟩ = some (.int .i64 (metA D k))
  z : ∀ k, w.frozen? ⟨b, k, none⟩ = false
theorem RefD.lt {w : World} {b : Nat} {D : Dst} (h : RefD w b D) : b < w.heap.size := World.block_lt_of_cell? w _ (h.cs 0 (by decide))
theorem RefD.same {w w' : World} {b : Nat} {D : Dst} (h : RefD w b D) (hb : w'.heap[b]? = w.heap[b]?) : RefD w' b D :=
  ⟨h.len, h.bs, h.bm, fun k hk => (World.cell?_of_block (a := ⟨b, k, none⟩) hb).trans (h.cs k hk), fun k hk => (World.cell?_of_block (a := ⟨b, 16 + k, none⟩) hb).trans (h.cm k hk), fun k => (World.frozen?_of_block (a := ⟨b, k, none⟩) hb).trans (h.z k)⟩
theorem RefD.keep {w w' : World} {b : Nat} {D : Dst} (h : RefD w b D) (g : Below w.heap.size w w') : RefD w' b D := h.same (g.block b h.lt)
theorem ad_ne {b i j : Nat} (h : i ≠ j) : (⟨b, i, none⟩ : Addr) ≠ ⟨b, j, none⟩ := fun e => h (by cases e; rfl)
theorem RefD.set1 {w : World} {b : Nat} {D : Dst} (h : RefD w b D) {i : Nat} (hi : i < 16) {x : Int} (hx : I64 x) : RefD (w.setCell ⟨b, i, none⟩ (.int .i64 x)) b (D.set i (x, metA D i)) := by
  refine ⟨by simp [h.len], fun k hk => ?_, fun k hk => ?_, fun k hk => ?_, fun k hk => ?_, fun k => by rw [World.frozen?_setCell]; exact h.z k⟩
  · rw [sel_set h.len hi]; split
    · exact hx
    · exact h.bs k hk
  · rw [met_set h.len hi]; split
    · rename_i e; subst e; exact h.bm k hk
    · exact h.bm k hk
  · rw [sel_set h.len hi]; split
    · rename_i e; subst e; exact World.cell?_setCell_same _ _ _ (h.cs k hk)
    · rename_i e; rw [World.cell?_setCell_other _ _ _ _ (ad_ne (fun q => e q.symm))]; exact h.cs k hk
  · rw [World.cell?_setCell_other _ _ _ _ (ad_ne (by omega)), met_set h.len hi]
    split
    · rename_i e; subst e; exact h.cm k hk
    · exact h.cm k hk
theorem RefD.set2 {w : World} {b : Nat} {D : Dst} (h : RefD w b D) {i : Nat} (hi : i < 16) {y : Int} (hy : I64 y) : RefD (w.setCell ⟨b, 16 + i, none⟩ (.int .i64 y)) b (D.set i (selA D i, y)) := by
  refine ⟨by simp [h.len], fun k hk => ?_, fun k hk => ?_, fun k hk => ?_, fun k hk => ?_, fun k => by rw [World.frozen?_setCell]; exact h.z k⟩
  · rw [sel_set h.len hi]; split
    · rename_i e; subst e; exact h.bs k hk
    · exact h.bs k hk
  · rw [met_set h.len hi]; split
    · exact hy
    · exact h.bm k hk
  · rw [World.cell?_setCell_other _ _ _ _ (ad_ne (by omega)), sel_set h.len hi]
    split
    · rename_i e; subst e; exact h.cs k hk
    · exact h.cs k hk
  · rw [met_set h.len hi]; split
    · rename_i e; subst e; exact World.cell?_setCell_same _ _ _ (h.cm k hk)
    · rename_i e; rw [World.cell?_setCell_other _ _ _ _ (ad_ne (by omega))]; exact h.cm k hk
theorem RefD.both {w : World} {b : Nat} {D : Dst} (h : RefD w b D) {i : Nat} (hi : i < 16) {x y : Int} (hx : I64 x) (hy : I64 y) : RefD ((w.setCell ⟨b, i, none⟩ (.int .i64 x)).setCell ⟨b, 16 + i, none⟩ (.int .i64 y)) b (D.set i (x, y)) := by
  have h1 := (h.set1 hi hx).set2 hi hy
  rw [sel_set h.len hi, if_pos rfl, List.set_set] at h1
  exact h1
end Wd
end Go.Proofs.Ytdpckckfkpefnaa
