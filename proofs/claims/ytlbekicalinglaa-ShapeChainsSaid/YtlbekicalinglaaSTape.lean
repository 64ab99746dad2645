/- A tape's classes are right. -/
import Derived.Test.YtlbekicalinglaaSOdd
import Derived.Test.YtlbekicalinglaaKU
namespace Go.Proofs.Ytlbekicalinglaa
open Go.RowKit
set_option linter.unusedVariables false
set_option maxRecDepth 20000
namespace Wd
/-- classes of a tape, the first so many -/
structure TapeL (L : List ClassA) : Prop where
  le : L.length ≤ 5
  ok : ∀ (k : Nat) c, L[k]? = some c → clsOk L k c ∧ bndSub 6 c.binds
theorem TapeU.tl {U : UnitA} (h : TapeU U) : TapeL U.classes := ⟨h.cl1, fun k c hc => ⟨(h.cls k c hc).1, (h.cls k c hc).2.2⟩⟩
theorem TapeL.take {L : List ClassA} (h : TapeL L) (n : Nat) : TapeL (L.take n) := by
  refine ⟨by rw [List.length_take]; have := h.le; omega, fun k c hc => ?_⟩
  have hk : k < n ∧ L[k]? = some c := by
    rw [List.getElem?_take] at hc
    split at hc
    · exact ⟨by assumption, hc⟩
    · cases hc
  obtain ⟨a, b⟩ := h.ok k c hk.2
  refine ⟨⟨a.z, a.o, a.nm, fun h2 => ?_, a.fld⟩, b⟩
  rcases a.sup h2 with e | ⟨e1, e2, d, e3, e4⟩
  · exact Or.inl e
  · exact Or.inr ⟨e1, e2, d, by rw [List.getElem?_take, if_pos (by omega)]; exact e3, e4⟩
/-- the name of each -/
def nmOf (k : Nat) : ByteArray := if k = 0 then ⟨#[66, 108, 111, 99, 107]⟩ else if k = 1 then ⟨#[65, 114, 114, 97, 121]⟩ else cName (k - 2)
theorem nm_at {L : List ClassA} {k : Nat} {c : ClassA} (h : clsOk L k c) : c.nm = nmOf k := by
  unfold nmOf
  split
  · exact (h.z ‹_›).1
  · split
    · exact (h.o ‹_›).1
    · exact h.nm (by omega)
theorem nm_apart : ∀ i, i < 5 → ∀ j, j < i → nmOf j ≠ nmOf i := by decide +kernel
theorem nm_text : ∀ i, i < 5 → textOk (nmOf i) = true := by decide +kernel
theorem bnd_right {b : List (Int × Int)} (h : bndSub 6 b) : bindsOk b 6 9 = true := by
  have hl := h.len
  obtain ⟨S, h1, h2, rfl⟩ := h
  unfold bindsOk
  have a : (S.map (fun (s : Nat) => ((s : Int), (s : Int)))).all (bindOk 6 9) = true := by
    rw [List.all_eq_true]
    intro x hx
    obtain ⟨s, hs, rfl⟩ := List.mem_map.1 hx
    have := h2 s hs
    exact bindOk_of (by simp only; omega) (by simp only; omega) (by simp only; omega) (by simp only; omega)
  have d : ((S.map (fun (s : Nat) => ((s : Int), (s : Int)))).map (·.1)).Nodup := by
    rw [List.map_map, List.Nodup, List.pairwise_map]
    exact h1.imp (fun hlt e => by simp only [Function.comp] at e; omega)
  rw [a, decide_eq_true d, decide_eq_true (by omega)]
  rfl
theorem tape_cls {L : List ClassA} (h : TapeL L) {k : Nat} {c : ClassA} (hc : L[k]? = some c) : classOk L k c = true := by
  obtain ⟨a, _⟩ := h.ok k c hc
  have hk := (List.getElem?_eq_some_iff.1 hc).1
  have hk5 := h.le
  have hd := deep_le L (k + 1) c.super
  have key : -1 ≤ c.super ∧ c.super < k ∧ 0 ≤ c.fields ∧ c.fields ≤ 62 ∧ (c.super < 0 ∨ superF L c.super ≤ c.fields) := by
    rcases (show k = 0 ∨ k = 1 ∨ 2 ≤ k by omega) with e | e | e
    · obtain ⟨_, s, f⟩ := a.z e
      rw [s, f]; omega
    · obtain ⟨_, s, f⟩ := a.o e
      rw [s, f]; omega
    · obtain ⟨f0, f1⟩ := a.fld e
      rcases a.sup e with e1 | ⟨e1, e2, d, e3, e4⟩
      · omega
      · refine ⟨by omega, e2, f0, by omega, Or.inr ?_⟩
        unfold superF
        rw [e3]; exact e4
  obtain ⟨k1, k2, k3, k4, k5⟩ := key
  rw [classOk_eq k1 k2 k3 k4, decide_eq_true (by omega)]
  rcases k5 with k5 | k5
  · rw [decide_eq_true k5]; rfl
  · rw [decide_eq_true k5]; simp
theorem tape_from {L : List ClassA} (h : TapeL L) : ∀ (R : List ClassA) (i : Nat), L.drop i = R → shapeFrom L 6 9 i R = 0
  | [], _, _ => rfl
  | c :: R, i, e => by
    have hc : L[i]? = some c := by
      have := congrArg (fun l => l[0]?) e
      simpa [List.getElem?_drop] using this
    have hi := (List.getElem?_eq_some_iff.1 hc).1
    have h5 := h.le
    obtain ⟨a, b⟩ := h.ok i c hc
    have hn : ∀ x ∈ L.take i, x.nm ≠ c.nm := fun x hx => by
      obtain ⟨j, hj⟩ := List.getElem?_of_mem hx
      have hji : j < i ∧ L[j]? = some x := by
        rw [List.getElem?_take] at hj
        split at hj
        · exact ⟨by assumption, hj⟩
        · cases hj
      rw [nm_at (h.ok j x hji.2).1, nm_at a]
      exact nm_apart i (by omega) j hji.1
    rw [shapeFrom, if_neg (by rw [nm_at a, nm_text i (by omega)]; decide), if_neg (by rw [anyNot hn]; decide), if_neg (by rw [tape_cls h hc]; decide), if_neg (by rw [bnd_right b]; decide)]
    refine tape_from h R (i + 1) ?_
    have := drop_next hc
    rw [e] at this
    exact (List.cons.inj this).2.symm
theorem tape_right {L : List ClassA} (h : TapeL L) (h2 : 2 ≤ L.length) : shapeR L 6 9 = 0 := by
  have h5 := h.le
  have hh : headOk L = true := by
    obtain ⟨a, ha⟩ : ∃ x, L[0]? = some x := ⟨L[0]'(by omega), by simp⟩
    obtain ⟨b, hb⟩ : ∃ x, L[1]? = some x := ⟨L[1]'(by omega), by simp⟩
    rw [head_at ha hb]
    obtain ⟨_, s0, f0⟩ := (h.ok 0 a ha).1.z rfl
    obtain ⟨_, s1, f1⟩ := (h.ok 1 b hb).1.o rfl
    rw [s0, f0, s1, f1]; rfl
  unfold shapeR
  rw [if_neg (by omega), if_neg (by rw [hh]; decide)]
  exact tape_from h L 0 rfl
theorem UnV.forms {w : World} {nv cv mv ov : Value} {U : UnitA} (h : UnV w nv cv mv ov U) : (∃ a m c, nv = .slice a m c) ∧ (∃ a m c, mv = .slice a m c) ∧ ∃ a m c, ov = .slice a m c := by
  obtain ⟨a, c, e, _⟩ := h.n.ex
  obtain ⟨a1, c1, e1, _⟩ := h.m.ex
  obtain ⟨a2, c2, e2, _⟩ := h.o.ex
  exact ⟨⟨_, _, _, e⟩, ⟨_, _, _, e1⟩, ⟨_, _, _, e2⟩⟩
theorem unit_f1 (a0 a1 a2 a3 : Option Addr) (m0 m1 m2 m3 c0 c1 c2 c3 : Nat) (x : Int) (w : World) : (Instr.field 27 (.agg #[.slice a0 m0 c0, .slice a1 m1 c1, .slice a2 m2 c2, .slice a3 m3 c3, .int .i64 x]) 1).run Try.prog w = .ok (.slice a1 m1 c1) w := by kernel_rfl
/-- numbers that came in -/
def NumA (w : World) (ad : Option Addr) (n : Nat) : Prop := ∀ k, k < n → ∃ (g off : Nat) (x : Int), ad = some ⟨g, off, none⟩ ∧ (-9223372036854775808 ≤ x ∧ x ≤ 9223372036854775807) ∧ w.cell? ⟨g, off + k, none⟩ = some (.int .i64 x)
theorem tape_tp {w : World} {ad : Option Addr} {n cap : Nat} (h : NumA w ad n) (hn : n ≤ 4611686018427387904) : Tp (w.alloc (.cells #[.slice ad n cap, .int .i64 0] 32)) w.heap.size ad n := by
  refine ⟨⟨cap, by simp⟩, ⟨0, by omega, by simp⟩, World.frozen?_alloc_new _ _ _ _, fun k hk => ?_, hn⟩
  obtain ⟨g, off, x, e, b, c⟩ := h k hk
  have hg := World.block_lt_of_cell? w _ c
  exact ⟨g, off, x, e, by simp only at hg; omega, b, (World.cell?_alloc_old _ _ _ (Nat.ne_of_lt hg)).trans c⟩
theorem unit_bel {w w' : World} {c : Obj} (h : Cg (fun k => k = w.heap.size) (w.alloc c) w') : Below w.heap.size w w' :=
  ⟨h.os, h.tape, h.output, by have := h.size; simp at this; omega, fun k hk => (h.block k (by simp; omega) (by omega)).trans (Below.heap_alloc _ _ _ hk)⟩
end Wd
end Go.Proofs.Ytlbekicalinglaa
