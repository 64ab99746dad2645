/- Rings as lists: no program is named here. -/
import Derived.RowKit
import Derived.Laws.OwnMore
import Derived.Deep.Draws
namespace Go.Proofs.Ythlijmdohejheaa
open Go.RowKit
set_option linter.unusedVariables false
namespace Wd
/-- where it stands; -1: nowhere -/
def idx (L : List Int) (i : Int) : Int := if i ∈ L then ((L.idxOf i : Nat) : Int) else -1
/-- the one behind -/
def nxt (L : List Int) (i : Int) : Int := if i ∈ L then (L[(L.idxOf i + 1) % L.length]?).getD 0 else -1
/-- the one ahead -/
def prv (L : List Int) (i : Int) : Int := if i ∈ L then (L[(L.idxOf i + L.length - 1) % L.length]?).getD 0 else -1
/-- all from it on -/
def frm (L : List Int) (i : Int) : List Int := if i ∈ L then L.drop (L.idxOf i) ++ L.take (L.idxOf i) else []
/-- what is left when one is taken out -/
def outL (L : List Int) (i : Int) : List Int := if i ∈ L then L.take (L.idxOf i) ++ L.drop (L.idxOf i + 1) else L
/-- what is in when one is put in ahead of another -/
def inL (L : List Int) (i a : Int) : List Int := if a ∈ L then L.take (L.idxOf a) ++ [i] ++ L.drop (L.idxOf a) else [i]
/-- may it be put in -/
def inOk (N : Int) (L : List Int) (i a : Int) : Bool := decide (0 ≤ i) && decide (i < N) && !decide (i ∈ L) && (decide (a ∈ L) || (a == -1 && L.isEmpty))
theorem idx_hit (L : List Int) (i : Int) (k : Nat) (h : i ∉ L.take k) (hk : L[k]? = some i) : idx L i = k := by
  have hm : i ∈ L := List.mem_of_getElem? hk
  unfold idx; rw [if_pos hm]
  have hk' := List.getElem?_eq_some_iff.1 hk
  obtain ⟨hlt, he⟩ := hk'
  have : L = L.take k ++ (i :: L.drop (k + 1)) := by
    rw [← he, List.getElem_cons_drop, List.take_append_drop]
  have h2 : L.idxOf i = k := by
    rw [this, List.idxOf_append, if_neg h]
    simp
    omega
  rw [h2]
theorem idx_miss (L : List Int) (i : Int) (h : i ∉ L.take L.length) : idx L i = -1 := by
  rw [List.take_length] at h
  simp [idx, h]
theorem take_step (L : List Int) (i x : Int) (k : Nat) (h : i ∉ L.take k) (hk : L[k]? = some x) (hx : x ≠ i) : i ∉ L.take (k + 1) := by
  rw [List.take_add_one, hk]
  simp only [Option.toList, List.mem_append, List.mem_singleton, not_or]
  exact ⟨h, fun e => hx e.symm⟩
/-- the numbers as values -/
abbrev ints (L : List Int) : List Value := L.map (Value.int .i64)
theorem row_cell {w : World} {e : TypeId} {g n cap : Nat} {L : List Int} (h : w.ownsRow 0 e 1 (.slice (some ⟨g, 0, none⟩) n cap) n (ints L)) {k : Nat} {x : Int} (hx : L[k]? = some x) : w.cell? ⟨g, k, none⟩ = some (.int .i64 x) := by
  have hl : L.length = n := by have := h.1; simpa using this
  have hk := (List.getElem?_eq_some_iff.1 hx).1
  rw [h.cellAt k (by omega)]
  simp [ints, hx]
/-- a slice of numbers: nil and none, or a row of its own -/
def SL (w : World) (e : TypeId) (v : Value) (L : List Int) : Prop := w.ownsRow 0 e 1 v L.length (ints L)
theorem SL.cases {w : World} {e : TypeId} {v : Value} {L : List Int} (h : SL w e v L) : (v = .slice none 0 0 ∧ L = []) ∨ ∃ g cap, v = .slice (some ⟨g, 0, none⟩) L.length cap ∧ L.length ≤ cap ∧ cap ≤ maxLen ∧ g < w.heap.size ∧ w.ownsRow 0 e 1 (.slice (some ⟨g, 0, none⟩) L.length cap) L.length (ints L) := by
  rcases h.2 with ⟨rfl, h0⟩ | ⟨g, cap, cur, rfl, _, hh, hle, hm, _⟩
  · exact Or.inl ⟨rfl, List.length_eq_zero_iff.1 h0⟩
  · exact Or.inr ⟨g, cap, rfl, hle, hm, (Array.getElem?_eq_some_iff.1 hh).1, h⟩
end Wd
end Go.Proofs.Ythlijmdohejheaa
