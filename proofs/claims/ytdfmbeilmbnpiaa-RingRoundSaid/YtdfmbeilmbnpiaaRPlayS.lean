/- What the laws ask of a ring, whoever keeps it; what keeps it: play. -/
import Derived.Test.YtdfmbeilmbnpiaaRNew
import Derived.Test.YtdfmbeilmbnpiaaRSame
import Derived.Test.YtdfmbeilmbnpiaaRMath
import Derived.Test.YtdfmbeilmbnpiaaRLawS
import Derived.OpenShut
import Derived.Deep.RegionHeld3
namespace Go.Proofs.Ytdfmbeilmbnpiaa
open Go.RowKit
namespace Wd
/-- the state of a play: a ring of the package's and one of the document's, both of the call's own -/
structure PSt (RA : RAt) (w0 wr : World) (p b n : Nat) (L : List Int) (F : Nat → Prop) (v : Value) (m : Nat) : Prop where
  two : Two RA wr p b n L F v
  nd : L.Nodup
  bel : Below w0.heap.size w0 wr
  fF : ∀ k, F k → w0.heap.size ≤ k
  fb : w0.heap.size ≤ b
  fv : ∀ g, v.ownBlock = some g → w0.heap.size ≤ g
  len : L.length ≤ m
section
variable {RA : RAt} {w0 wr wA w1 w2 : World} {p b n m : Nat} {L L' : List Int} {F : Nat → Prop} {v v' : Value}
theorem PSt.keep (K : RingK RA) (h : PSt RA w0 wr p b n L F v m) (g : Below wr.heap.size wr wA) : PSt RA w0 wA p b n L F v m :=
  ⟨h.two.keep K g, h.nd, h.bel.trans (g.mono h.bel.size), h.fF, h.fb, h.fv, h.len⟩
theorem PSt.ref1 (K : RingK RA) (h : PSt RA w0 wr p b n L F v m) (g : Below wr.heap.size wr wA) (c : Ch F wA w1) : RefAt w1 b n L v := by
  have h2 := h.keep K g
  refine h2.two.ref.keep (fun k hk => c.block k ?_ ?_)
  · rcases hk with rfl | hk
    · exact h2.two.ref.lt.1
    · exact h2.two.ref.lt.2 k hk
  · rcases hk with rfl | hk
    · exact h2.two.apart.1
    · exact h2.two.apart.2 k hk
theorem PSt.step (K : RingK RA) (h : PSt RA w0 wr p b n L F v m) (g : Below wr.heap.size wr wA) (hra : RA w1 p n L' F) (c : Ch F wA w1) (href : RefAt w2 b n L' v') (hgr : w1.grownBy w2 (some b))
    (hf : ∀ g, v'.ownBlock = some g → w1.heap.size ≤ g ∨ v.ownBlock = some g) (nd : L'.Nodup) (hl : L'.length ≤ m + 1) : PSt RA w0 w2 p b n L' F v' (m + 1) := by
  have h2 := h.keep K g
  have b1 : Below w0.heap.size w0 w1 := h2.bel.trans ⟨c.os, c.tape, c.output, c.size, fun k hk => c.block k (Nat.lt_of_lt_of_le hk h2.bel.size) (fun hF => by have := h.fF k hF; omega)⟩
  have b2 : Below w0.heap.size w0 w2 := b1.trans ⟨hgr.os, hgr.tape, hgr.output, hgr.size, fun k hk => hgr.block k (Nat.lt_of_lt_of_le hk b1.size) (fun e => by have := h.fb; cases e; omega)⟩
  refine ⟨⟨K.keep hra (fun k hk => hgr.block k (K.lt hra k hk) (fun e => by cases e; exact h.two.apart.1 hk)), href, h.two.apart.1, fun g' hg => ?_⟩, nd, b2, h.fF, h.fb, fun g' hg => ?_, hl⟩
  · rcases hf g' hg with h' | h'
    · intro hF; have := K.lt hra g' hF; omega
    · exact h.two.apart.2 g' h'
  · rcases hf g' hg with h' | h'
    · have := b1.size; omega
    · exact h.fv g' h'
/-- three cells of block B -/
def Box (w : World) (B : Nat) (x y z : Int) : Prop := w.cell? ⟨B, 0, none⟩ = some (.int .i64 x) ∧ w.cell? ⟨B, 1, none⟩ = some (.int .i64 y) ∧ w.cell? ⟨B, 2, none⟩ = some (.int .i64 z)
theorem box_of {B : Nat} {x y z : Int} (h : wA.cell? ⟨B, 0, none⟩ = some (.int .i64 x) ∧ wA.cell? ⟨B, 1, none⟩ = some (.int .i64 y) ∧ wA.cell? ⟨B, 2, none⟩ = some (.int .i64 z)) (hk : w1.heap[B]? = wA.heap[B]?) :
    w1.cell? ⟨B, 0, none⟩ = some (.int .i64 x) ∧ w1.cell? ⟨B, 1, none⟩ = some (.int .i64 y) ∧ w1.cell? ⟨B, 2, none⟩ = some (.int .i64 z) :=
  ⟨(World.cell?_of_block (a := ⟨B, 0, none⟩) hk).trans h.1, (World.cell?_of_block (a := ⟨B, 1, none⟩) hk).trans h.2.1, (World.cell?_of_block (a := ⟨B, 2, none⟩) hk).trans h.2.2⟩
theorem box_ch {B : Nat} {x y z : Int} (h : wA.cell? ⟨B, 0, none⟩ = some (.int .i64 x) ∧ wA.cell? ⟨B, 1, none⟩ = some (.int .i64 y) ∧ wA.cell? ⟨B, 2, none⟩ = some (.int .i64 z)) (c : Ch F wA w1) (hB : ¬ F B) :
    w1.cell? ⟨B, 0, none⟩ = some (.int .i64 x) ∧ w1.cell? ⟨B, 1, none⟩ = some (.int .i64 y) ∧ w1.cell? ⟨B, 2, none⟩ = some (.int .i64 z) := box_of h (c.block B (World.block_lt_of_cell? wA _ h.1) hB)
theorem box_gr {B : Nat} {x y z : Int} (h : wA.cell? ⟨B, 0, none⟩ = some (.int .i64 x) ∧ wA.cell? ⟨B, 1, none⟩ = some (.int .i64 y) ∧ wA.cell? ⟨B, 2, none⟩ = some (.int .i64 z)) (c : wA.grownBy w1 (some b)) (hB : B ≠ b) :
    w1.cell? ⟨B, 0, none⟩ = some (.int .i64 x) ∧ w1.cell? ⟨B, 1, none⟩ = some (.int .i64 y) ∧ w1.cell? ⟨B, 2, none⟩ = some (.int .i64 z) := box_of h (c.block B (World.block_lt_of_cell? wA _ h.1) (by simpa using hB))
theorem box_be {B : Nat} {x y z : Int} (h : wA.cell? ⟨B, 0, none⟩ = some (.int .i64 x) ∧ wA.cell? ⟨B, 1, none⟩ = some (.int .i64 y) ∧ wA.cell? ⟨B, 2, none⟩ = some (.int .i64 z)) (c : Below wA.heap.size wA w1) :
    w1.cell? ⟨B, 0, none⟩ = some (.int .i64 x) ∧ w1.cell? ⟨B, 1, none⟩ = some (.int .i64 y) ∧ w1.cell? ⟨B, 2, none⟩ = some (.int .i64 z) := box_of h (c.block B (World.block_lt_of_cell? wA _ h.1))
theorem nd_put (h : L.Nodup) (i a : Int) : (if putOk n L i a then inL L i a else L).Nodup ∧ (if putOk n L i a then inL L i a else L).length ≤ L.length + 1 := by
  by_cases c : putOk n L i a = true
  · rw [if_pos c]
    simp only [putOk, decide_eq_true_eq] at c
    obtain ⟨_, _, c3, c4⟩ := c
    by_cases ca : a ∈ L
    · obtain ⟨n1, _, _, _, l1⟩ := inL_facts h c3 ca
      exact ⟨n1, by omega⟩
    · obtain ⟨rfl, rfl⟩ := c4.resolve_left ca
      simp [inL]
  · rw [if_neg c]; exact ⟨h, by omega⟩
theorem len_out (h : L.Nodup) (i : Int) : (outL L i).length ≤ L.length + 1 := by
  by_cases hi : i ∈ L
  · have := len_outL h hi; omega
  · simp [outL, hi]
end
theorem rng_nd (m : Nat) : (rng m).Nodup := by
  unfold rng
  rw [List.Nodup, List.pairwise_map]
  exact (List.nodup_range (n := m)).imp (fun h e => h (by omega))
/-- the asks, as a play reads them: in the world at hand and in any that only grew -/
def Asks (w0 : World) (ad : Option Addr) (len : Nat) : Prop := ∀ wr, Below w0.heap.size w0 wr → ∀ k, k < len → ∃ (g off : Nat) (x y z : Int), ad = some ⟨g, off, none⟩ ∧ (-9223372036854775808 ≤ x ∧ x ≤ 9223372036854775807) ∧ (-9223372036854775808 ≤ y ∧ y ≤ 9223372036854775807) ∧ (-9223372036854775808 ≤ z ∧ z ≤ 9223372036854775807) ∧
  wr.cell? ⟨g, off + k * 3, none⟩ = some (.int .i64 x) ∧ wr.cell? ⟨g, off + k * 3 + 1, none⟩ = some (.int .i64 y) ∧ wr.cell? ⟨g, off + k * 3 + 2, none⟩ = some (.int .i64 z)
end Wd
end Go.Proofs.Ytdfmbeilmbnpiaa
