/- The document's own mill: its rows. -/
import Derived.Test.YtjobeomadkaeoaaMBase
import Derived.StillTailTactics
import Derived.BigRegion
namespace Go.Proofs.Ytjobeomadkaeoaa
open Go.RowKit
namespace Wd
/-- the rows of a mill: Free, Black, Grey, Ecru -/
abbrev Mst := Nat → List Int
def upA (A : Mst) (k : Nat) (X : List Int) : Mst := fun j => if j = k then X else A j
def upV (V : Nat → Value) (k : Nat) (v : Value) : Nat → Value := fun j => if j = k then v else V j
/-- the first of a row is the last of another -/
def firstA (A : Mst) (x y : Nat) : Mst := match A x with
  | [] => A
  | i :: T => upA (upA A x T) y (A y ++ [i])
def firstR (A : Mst) (x : Nat) : Int := match A x with
  | [] => -1
  | i :: _ => i
def colorR (A : Mst) (i : Int) : Int := if i ∈ A 0 then 0 else if i ∈ A 1 then 1 else if i ∈ A 2 then 2 else if i ∈ A 3 then 3 else -1
def shadeA (A : Mst) (i : Int) : Mst := if colorR A i = 3 then upA (upA A 3 ((A 3).filter (· ≠ i))) 2 (A 2 ++ [i]) else A
def flipR (A : Mst) : List Int := if A 2 = [] then A 3 else []
def flipA (A : Mst) : Mst := if A 2 = [] then upA (upA (upA A 0 (A 0 ++ A 3)) 3 (A 1)) 1 [] else A
/-- a mill of the document's own, at block b -/
structure RefM (w : World) (b : Nat) (A : Mst) (V : Nat → Value) : Prop where
  c : ∀ k, k < 4 → w.cell? ⟨b, k, none⟩ = some (V k)
  z : ∀ k, w.frozen? ⟨b, k, none⟩ = false
  own : ∀ k, k < 4 → SL w 3 (V k) (A k)
  apart : ∀ k, k < 4 → (V k).ownBlock ≠ some b
def Comes (V V' : Nat → Value) (s : Nat) : Prop := ∀ k g, k < 4 → (V' k).ownBlock = some g → s ≤ g ∨ ∃ j, j < 4 ∧ (V j).ownBlock = some g
theorem Comes.refl (V : Nat → Value) (s : Nat) : Comes V V s := fun k _ hk h => Or.inr ⟨k, hk, h⟩
theorem Comes.up {V V' : Nat → Value} {s : Nat} (h : Comes V V' s) (k : Nat) {v : Value} (hv : ∀ g, v.ownBlock = some g → s ≤ g ∨ ∃ j, j < 4 ∧ (V j).ownBlock = some g) : Comes V (upV V' k v) s := by
  intro j g hj hg
  unfold upV at hg
  split at hg
  · exact hv g hg
  · exact h j g hj hg
theorem Comes.trans {V V' V'' : Nat → Value} {s t : Nat} (h : Comes V V' s) (g : Comes V' V'' t) (hst : s ≤ t) : Comes V V'' s := by
  intro k x hk hx
  rcases g k x hk hx with h1 | ⟨j, hj, h1⟩
  · exact Or.inl (by omega)
  · exact h j x hj h1
theorem RefM.lt {w : World} {b : Nat} {A : Mst} {V : Nat → Value} (h : RefM w b A V) : b < w.heap.size ∧ ∀ k g, k < 4 → (V k).ownBlock = some g → g < w.heap.size :=
  ⟨World.block_lt_of_cell? w _ (h.c 0 (by decide)), fun k g hk hg => ((h.own k hk).lt g hg).2⟩
theorem RefM.same {w w' : World} {b : Nat} {A : Mst} {V : Nat → Value} (h : RefM w b A V) (hk : ∀ g, (g = b ∨ ∃ j, j < 4 ∧ (V j).ownBlock = some g) → w'.heap[g]? = w.heap[g]?) : RefM w' b A V := by
  have hb := hk b (Or.inl rfl)
  refine ⟨fun k h4 => (World.cell?_of_block (a := ⟨b, k, none⟩) hb).trans (h.c k h4), fun k => (World.frozen?_of_block (a := ⟨b, k, none⟩) hb).trans (h.z k), fun k h4 => ?_, h.apart⟩
  obtain ⟨h1, h2⟩ := h.own k h4
  refine ⟨h1, ?_⟩
  rcases h2 with hh | ⟨g, cap, cur, e1, e2, e3, e4⟩
  · exact Or.inl hh
  · exact Or.inr ⟨g, cap, cur, e1, e2, (hk g (Or.inr ⟨k, h4, by rw [e1]; rfl⟩)).trans e3, e4⟩
theorem RefM.keep {w w' : World} {b : Nat} {A : Mst} {V : Nat → Value} (h : RefM w b A V) (g : Below w.heap.size w w') : RefM w' b A V :=
  h.same (fun k hk => g.block k (by rcases hk with rfl | ⟨j, hj, hk⟩; exact h.lt.1; exact h.lt.2 j k hj hk))
theorem RefM.put {w2 : World} {b k : Nat} {A : Mst} {V : Nat → Value} {v : Value} {X : List Int} (h : RefM w2 b A V) (hk : k < 4) (own : SL w2 3 v X) (far : v.ownBlock ≠ some b) :
    RefM (w2.setCell ⟨b, k, none⟩ v) b (upA A k X) (upV V k v) := by
  refine ⟨fun j hj => ?_, fun j => by rw [World.frozen?_setCell]; exact h.z j, fun j hj => ?_, fun j hj => ?_⟩
  · by_cases c : j = k
    · subst c; simp only [upV, if_true]; exact World.cell?_setCell_same _ _ _ (h.c j hj)
    · simp only [upV, if_neg c]; exact (World.cell?_setCell_other _ _ _ _ (by intro e; cases e; exact c rfl)).trans (h.c j hj)
  · by_cases c : j = k
    · subst c; simp only [upV, upA, if_true]; exact ownsRow_setCell_other own far _
    · simp only [upV, upA, if_neg c]; exact ownsRow_setCell_other (h.own j hj) (h.apart j hj) _
  · by_cases c : j = k
    · subst c; simp only [upV, if_true]; exact far
    · simp only [upV, if_neg c]; exact h.apart j hj
theorem grown_put {w w2 : World} {b k : Nat} (bel : Below w.heap.size w w2) (v : Value) : w.grownBy (w2.setCell ⟨b, k, none⟩ v) (some b) := by
  refine ⟨bel.os, bel.tape, bel.output, by simpa [World.setCell] using bel.size, fun j hj hne => ?_⟩
  rw [Below.heap_setCell _ _ _ _ (by simpa using hne)]
  exact bel.block j hj
theorem grown_put2 {w w1 w2 : World} {b k : Nat} (g : w.grownBy w1 (some b)) (bel : Below w1.heap.size w1 w2) (v : Value) : w.grownBy (w2.setCell ⟨b, k, none⟩ v) (some b) := by
  refine ⟨bel.os.trans g.os, bel.tape.trans g.tape, bel.output.trans g.output, Nat.le_trans g.size (by simpa [World.setCell] using bel.size), fun j hj hne => ?_⟩
  rw [Below.heap_setCell _ _ _ _ (by simpa using hne), bel.block j (Nat.lt_of_lt_of_le hj g.size)]
  exact g.block j hj hne
theorem made_after (w : World) (o : Obj) (e : TypeId) : ((w.alloc o).alloc (.cells #[] e)).ownsRow w.heap.size e 1 (.slice (some ⟨w.heap.size + 1, 0, none⟩) 0 0) 0 [] := by
  have := World.ownsRow_made (base := w.heap.size) (size := 1) (e := e) (w.alloc o) #[] 0 (by simp) (by decide) rfl
  rwa [World.size_alloc] at this
theorem Reads.tail {w : World} {g n cap : Nat} {i : Int} {T : List Int} {ad : Addr} (h : w.ownsRow 0 3 1 (.slice (some ⟨g, 0, none⟩) n cap) n (ints (i :: T))) (hn : n = T.length + 1) (hc : n ≤ cap) (ha : (if cap = 1 then some (⟨g, 0, none⟩ : Addr) else some ⟨g, 1, none⟩) = some ad) :
    Reads w (.slice (some ad) T.length (cap - 1)) T := by
  refine Or.inr ⟨ad, cap - 1, rfl, fun j x hx => ?_⟩
  by_cases c : cap = 1
  · have : T = [] := List.length_eq_zero_iff.1 (by omega)
    subst this
    simp [ints] at hx
  · rw [if_neg c] at ha
    cases ha
    simp only [ints, List.getElem?_map, Option.map_eq_some_iff] at hx
    obtain ⟨y, hy, rfl⟩ := hx
    rw [Addr.add_lit]
    exact row_cell h (by rw [Nat.add_comm]; simpa using hy)
end Wd
end Go.Proofs.Ytjobeomadkaeoaa
