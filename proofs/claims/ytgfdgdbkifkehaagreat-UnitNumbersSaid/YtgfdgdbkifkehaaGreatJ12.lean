/- Texts joined: UTC, UTM, UTR, UKN, UTB. -/
import Derived.Test.YtgfdgdbkifkehaaGreatJ1
import Derived.Test.YtgfdgdbkifkehaaGreatJ3
import Derived.Test.YtgfdgdbkifkehaaGreatJ4
import Derived.Test.YtgfdgdbkifkehaaGreatJ5
import Derived.Test.YtgfdgdbkifkehaaGreatJ6
import Derived.Test.YtgfdgdbkifkehaaGreatJ10
/- A tape's classes are right. -/
namespace Go.Proofs.YtgfdgdbkifkehaaGreat
open Go.RowKit
set_option linter.unusedVariables false
set_option maxRecDepth 20000
namespace Wd
/-- classes of a tape, the first so many -/
structure TapeL (L : List ClassA) : Prop where
  le : L.length ≤ 5
  ok : ∀ (k : Nat) c, L[k]? = some c → clsOk L k c ∧ bndSub 6 c.binds
theorem TapeU.tl {U : UnitA} (h : TapeU U) : TapeL U.classes := ⟨h.cl1, fun k c hc => ⟨(h.cls k c hc).1, (h.cls k c hc).2.2⟩⟩
theorem TapeL.take {L : List ClassA} (h : TapeL L) (n : Nat) : TapeL (L.take n) := by
  refine ⟨by rw [List.length_take]; have := h.le; omega, fun k c hc => ?_⟩
  have hk : k < n ∧ L[k]? = some c := by
    rw [List.getElem?_take] at hc
    split at hc
    · exact ⟨by assumption, hc⟩
    · cases hc
  obtain ⟨a, b⟩ := h.ok k c hk.2
  refine ⟨⟨a.z, a.o, a.nm, fun h2 => ?_, a.fld⟩, b⟩
  rcases a.sup h2 with e | ⟨e1, e2, d, e3, e4⟩
  · exact Or.inl e
  · exact Or.inr ⟨e1, e2, d, by rw [List.getElem?_take, if_pos (by omega)]; exact e3, e4⟩
/-- the name of each -/
def nmOf (k : Nat) : ByteArray := if k = 0 then ⟨#[66, 108, 111, 99, 107]⟩ else if k = 1 then ⟨#[65, 114, 114, 97, 121]⟩ else cName (k - 2)
theorem nm_at {L : List ClassA} {k : Nat} {c : ClassA} (h : clsOk L k c) : c.nm = nmOf k := by
  unfold nmOf
  split
  · exact (h.z ‹_›).1
  · split
    · exact (h.o ‹_›).1
    · exact h.nm (by omega)
theorem nm_apart : ∀ i, i < 5 → ∀ j, j < i → nmOf j ≠ nmOf i := by decide +kernel
theorem nm_text : ∀ i, i < 5 → textOk (nmOf i) = true := by decide +kernel
theorem bnd_right {b : List (Int × Int)} (h : bndSub 6 b) : bindsOk b 6 9 = true := by
  have hl := h.len
  obtain ⟨S, h1, h2, rfl⟩ := h
  unfold bindsOk
  have a : (S.map (fun (s : Nat) => ((s : Int), (s : Int)))).all (bindOk 6 9) = true := by
    rw [List.all_eq_true]
    intro x hx
    obtain ⟨s, hs, rfl⟩ := List.mem_map.1 hx
    have := h2 s hs
    exact bindOk_of (by simp only; omega) (by simp only; omega) (by simp only; omega) (by simp only; omega)
  have d : ((S.map (fun (s : Nat) => ((s : Int), (s : Int)))).map (·.1)).Nodup := by
    rw [List.map_map, List.Nodup, List.pairwise_map]
    exact h1.imp (fun hlt e => by simp only [Function.comp] at e; omega)
  rw [a, decide_eq_true d, decide_eq_true (by omega)]
  rfl
theorem tape_cls {L : List ClassA} (h : TapeL L) {k : Nat} {c : ClassA} (hc : L[k]? = some c) : classOk L k c = true := by
  obtain ⟨a, _⟩ := h.ok k c hc
  have hk := (List.getElem?_eq_some_iff.1 hc).1
  have hk5 := h.le
  have hd := deep_le L (k + 1) c.super
  have key : -1 ≤ c.super ∧ c.super < k ∧ 0 ≤ c.fields ∧ c.fields ≤ 62 ∧ (c.super < 0 ∨ superF L c.super ≤ c.fields) := by
    rcases (show k = 0 ∨ k = 1 ∨ 2 ≤ k by omega) with e | e | e
    · obtain ⟨_, s, f⟩ := a.z e
      rw [s, f]; omega
    · obtain ⟨_, s, f⟩ := a.o e
      rw [s, f]; omega
    · obtain ⟨f0, f1⟩ := a.fld e
      rcases a.sup e with e1 | ⟨e1, e2, d, e3, e4⟩
      · omega
      · refine ⟨by omega, e2, f0, by omega, Or.inr ?_⟩
        unfold superF
        rw [e3]; exact e4
  obtain ⟨k1, k2, k3, k4, k5⟩ := key
  rw [classOk_eq k1 k2 k3 k4, decide_eq_true (by omega)]
  rcases k5 with k5 | k5
  · rw [decide_eq_true k5]; rfl
  · rw [decide_eq_true k5]; simp
theorem tape_from {L : List ClassA} (h : TapeL L) : ∀ (R : List ClassA) (i : Nat), L.drop i = R → shapeFrom L 6 9 i R = 0
  | [], _, _ => rfl
  | c :: R, i, e => by
    have hc : L[i]? = some c := by
      have := congrArg (fun l => l[0]?) e
      simpa [List.getElem?_drop] using this
    have hi := (List.getElem?_eq_some_iff.1 hc).1
    have h5 := h.le
    obtain ⟨a, b⟩ := h.ok i c hc
    have hn : ∀ x ∈ L.take i, x.nm ≠ c.nm := fun x hx => by
      obtain ⟨j, hj⟩ := List.getElem?_of_mem hx
      have hji : j < i ∧ L[j]? = some x := by
        rw [List.getElem?_take] at hj
        split at hj
        · exact ⟨by assumption, hj⟩
        · cases hj
      rw [nm_at (h.ok j x hji.2).1, nm_at a]
      exact nm_apart i (by omega) j hji.1
    rw [shapeFrom, if_neg (by rw [nm_at a, nm_text i (by omega)]; decide), if_neg (by rw [anyNot hn]; decide), if_neg (by rw [tape_cls h hc]; decide), if_neg (by rw [bnd_right b]; decide)]
    refine tape_from h R (i + 1) ?_
    have := drop_next hc
    rw [e] at this
    exact (List.cons.inj this).2.symm
theorem tape_right {L : List ClassA} (h : TapeL L) (h2 : 2 ≤ L.length) : shapeR L 6 9 = 0 := by
  have h5 := h.le
  have hh : headOk L = true := by
    obtain ⟨a, ha⟩ : ∃ x, L[0]? = some x := ⟨L[0]'(by omega), by simp⟩
    obtain ⟨b, hb⟩ : ∃ x, L[1]? = some x := ⟨L[1]'(by omega), by simp⟩
    rw [head_at ha hb]
    obtain ⟨_, s0, f0⟩ := (h.ok 0 a ha).1.z rfl
    obtain ⟨_, s1, f1⟩ := (h.ok 1 b hb).1.o rfl
    rw [s0, f0, s1, f1]; rfl
  unfold shapeR
  rw [if_neg (by omega), if_neg (by rw [hh]; decide)]
  exact tape_from h L 0 rfl
end Wd
end Go.Proofs.YtgfdgdbkifkehaaGreat

/- A tape's methods are right. -/
namespace Go.Proofs.YtgfdgdbkifkehaaGreat
open Go.RowKit
set_option linter.unusedVariables false
set_option maxRecDepth 20000
namespace Wd
theorem wr8_id {x : Int} (h0 : 0 ≤ x) (h1 : x ≤ 255) : wr8 x = x := by
  have e : wr8 x = x % 256 := by
    unfold wr8 IntKind.wrap
    rfl
  rw [e]; omega
/-- the instruction y, number j of n that go together, whose literals are a tape's: may it be done? -/
def insW (j n : Nat) (y : Int × Int) : Prop :=
  ((y.1 = 0 ∨ y.1 = 10) ∧ y.2 < 2) ∨ ((y.1 = 1 ∨ y.1 = 11) ∧ y.2 < 62) ∨ (y.1 = 2 ∧ 0 ≤ y.2 ∧ y.2 < 4) ∨ ((y.1 = 12 ∨ y.1 = 13) ∧ 4 ≤ y.2 ∧ y.2 < 10) ∨ (y.1 = 20 ∧ 10 ≤ y.2 ∧ y.2 < 12) ∨ (y.1 = 18 ∧ 12 ≤ y.2 ∧ y.2 < 14) ∨ (y.1 = 17 ∧ (j : Int) + 1 + y.2 ≤ n) ∨ (y.1 = 21 ∧ y.2 ≤ 23) ∨ ((3 ≤ y.1 ∧ y.1 ≤ 9) ∨ y.1 = 14 ∨ y.1 = 19)
theorem w_mk {j n : Nat} {a b : Int} (h : ((a = 0 ∨ a = 10) ∧ b < 2) ∨ ((a = 1 ∨ a = 11) ∧ b < 62) ∨ (a = 2 ∧ 0 ≤ b ∧ b < 4) ∨ ((a = 12 ∨ a = 13) ∧ 4 ≤ b ∧ b < 10) ∨ (a = 20 ∧ 10 ≤ b ∧ b < 12) ∨ (a = 18 ∧ 12 ≤ b ∧ b < 14) ∨ (a = 17 ∧ (j : Int) + 1 + b ≤ n) ∨ (a = 21 ∧ b ≤ 23) ∨ ((3 ≤ a ∧ a ≤ 9) ∨ a = 14 ∨ a = 19)) : insW j n (a, b) := h
theorem w_A {l : List (Int × Int)} (h : pkA l) {j : Nat} {z9 : Int × Int} (hj : l[j]? = some z9) : insW j l.length z9 := by
  obtain ⟨a, ha, rfl⟩ := h
  rcases (show j = 0 ∨ j = 1 ∨ j = 2 by have := (List.getElem?_eq_some_iff.1 hj).1; simp at this; omega) with rfl | rfl | rfl
  · obtain rfl : (wr8 7, wr8 a) = z9 := by simpa using hj
    have b9 := wr8_bd a
    rw [wr8_id (x := 7) (by omega) (by omega)]
    refine w_mk (n := 3) ?_
    omega
  · obtain rfl : (wr8 21, wr8 10) = z9 := by simpa using hj
    have b9 := wr8_bd 10
    rw [wr8_id (x := 21) (by omega) (by omega)]
    rw [wr8_id (x := 10) (by omega) (by omega)]
    refine w_mk (n := 3) ?_
    omega
  · obtain rfl : (wr8 8, wr8 0) = z9 := by simpa using hj
    have b9 := wr8_bd 0
    rw [wr8_id (x := 8) (by omega) (by omega)]
    refine w_mk (n := 3) ?_
    omega
theorem w_B {l : List (Int × Int)} (h : pkB l) {j : Nat} {z9 : Int × Int} (hj : l[j]? = some z9) : insW j l.length z9 := by
  obtain ⟨s, hs, rfl⟩ := h
  rcases (show j = 0 ∨ j = 1 ∨ j = 2 by have := (List.getElem?_eq_some_iff.1 hj).1; simp at this; omega) with rfl | rfl | rfl
  · obtain rfl : (wr8 3, wr8 0) = z9 := by simpa using hj
    have b9 := wr8_bd 0
    rw [wr8_id (x := 3) (by omega) (by omega)]
    refine w_mk (n := 3) ?_
    omega
  · obtain rfl : (wr8 12, wr8 s) = z9 := by simpa using hj
    have b9 := wr8_bd s
    rw [wr8_id (x := 12) (by omega) (by omega)]
    rw [wr8_id (x := s) (by omega) (by omega)]
    refine w_mk (n := 3) ?_
    omega
  · obtain rfl : (wr8 8, wr8 0) = z9 := by simpa using hj
    have b9 := wr8_bd 0
    rw [wr8_id (x := 8) (by omega) (by omega)]
    refine w_mk (n := 3) ?_
    omega
theorem w_C {l : List (Int × Int)} (h : pkC l) {j : Nat} {z9 : Int × Int} (hj : l[j]? = some z9) : insW j l.length z9 := by
  obtain ⟨a, x, ha, hx, rfl⟩ := h
  rcases (show j = 0 ∨ j = 1 ∨ j = 2 ∨ j = 3 ∨ j = 4 by have := (List.getElem?_eq_some_iff.1 hj).1; simp at this; omega) with rfl | rfl | rfl | rfl | rfl
  · obtain rfl : (wr8 3, wr8 0) = z9 := by simpa using hj
    have b9 := wr8_bd 0
    rw [wr8_id (x := 3) (by omega) (by omega)]
    refine w_mk (n := 5) ?_
    omega
  · obtain rfl : (wr8 7, wr8 a) = z9 := by simpa using hj
    have b9 := wr8_bd a
    rw [wr8_id (x := 7) (by omega) (by omega)]
    refine w_mk (n := 5) ?_
    omega
  · obtain rfl : (wr8 12, wr8 (5 + x)) = z9 := by simpa using hj
    have b9 := wr8_bd (5 + x)
    rw [wr8_id (x := 12) (by omega) (by omega)]
    rw [wr8_id (x := (5 + x)) (by omega) (by omega)]
    refine w_mk (n := 5) ?_
    omega
  · obtain rfl : (wr8 21, wr8 10) = z9 := by simpa using hj
    have b9 := wr8_bd 10
    rw [wr8_id (x := 21) (by omega) (by omega)]
    rw [wr8_id (x := 10) (by omega) (by omega)]
    refine w_mk (n := 5) ?_
    omega
  · obtain rfl : (wr8 8, wr8 0) = z9 := by simpa using hj
    have b9 := wr8_bd 0
    rw [wr8_id (x := 8) (by omega) (by omega)]
    refine w_mk (n := 5) ?_
    omega
theorem w_D {l : List (Int × Int)} (h : pkD l) {j : Nat} {z9 : Int × Int} (hj : l[j]? = some z9) : insW j l.length z9 := by
  obtain ⟨i, a, q, hi, ha, hq, rfl⟩ := h
  rcases (show j = 0 ∨ j = 1 ∨ j = 2 ∨ j = 3 ∨ j = 4 by have := (List.getElem?_eq_some_iff.1 hj).1; simp at this; omega) with rfl | rfl | rfl | rfl | rfl
  · obtain rfl : (wr8 2, wr8 i) = z9 := by simpa using hj
    have b9 := wr8_bd i
    rw [wr8_id (x := 2) (by omega) (by omega)]
    rw [wr8_id (x := i) (by omega) (by omega)]
    refine w_mk (n := 5) ?_
    omega
  · obtain rfl : (wr8 7, wr8 (a - 9)) = z9 := by simpa using hj
    have b9 := wr8_bd (a - 9)
    rw [wr8_id (x := 7) (by omega) (by omega)]
    refine w_mk (n := 5) ?_
    omega
  · obtain rfl : (wr8 21, wr8 q) = z9 := by simpa using hj
    have b9 := wr8_bd q
    rw [wr8_id (x := 21) (by omega) (by omega)]
    rw [wr8_id (x := q) (by omega) (by omega)]
    refine w_mk (n := 5) ?_
    omega
  · obtain rfl : (wr8 21, wr8 10) = z9 := by simpa using hj
    have b9 := wr8_bd 10
    rw [wr8_id (x := 21) (by omega) (by omega)]
    rw [wr8_id (x := 10) (by omega) (by omega)]
    refine w_mk (n := 5) ?_
    omega
  · obtain rfl : (wr8 8, wr8 0) = z9 := by simpa using hj
    have b9 := wr8_bd 0
    rw [wr8_id (x := 8) (by omega) (by omega)]
    refine w_mk (n := 5) ?_
    omega
theorem w_E {l : List (Int × Int)} (h : pkE l) {j : Nat} {z9 : Int × Int} (hj : l[j]? = some z9) : insW j l.length z9 := by
  obtain ⟨x, y, hx, hy, rfl⟩ := h
  rcases (show j = 0 ∨ j = 1 ∨ j = 2 by have := (List.getElem?_eq_some_iff.1 hj).1; simp at this; omega) with rfl | rfl | rfl
  · obtain rfl : (wr8 20, wr8 (10 + x)) = z9 := by simpa using hj
    have b9 := wr8_bd (10 + x)
    rw [wr8_id (x := 20) (by omega) (by omega)]
    rw [wr8_id (x := (10 + x)) (by omega) (by omega)]
    refine w_mk (n := 3) ?_
    omega
  · obtain rfl : (wr8 10, wr8 y) = z9 := by simpa using hj
    have b9 := wr8_bd y
    rw [wr8_id (x := 10) (by omega) (by omega)]
    rw [wr8_id (x := y) (by omega) (by omega)]
    refine w_mk (n := 3) ?_
    omega
  · obtain rfl : (wr8 8, wr8 0) = z9 := by simpa using hj
    have b9 := wr8_bd 0
    rw [wr8_id (x := 8) (by omega) (by omega)]
    refine w_mk (n := 3) ?_
    omega
theorem w_F {l : List (Int × Int)} (h : pkF l) {j : Nat} {z9 : Int × Int} (hj : l[j]? = some z9) : insW j l.length z9 := by
  obtain ⟨a, y, ha, hy, rfl⟩ := h
  rcases (show j = 0 ∨ j = 1 ∨ j = 2 ∨ j = 3 by have := (List.getElem?_eq_some_iff.1 hj).1; simp at this; omega) with rfl | rfl | rfl | rfl
  · obtain rfl : (wr8 7, wr8 a) = z9 := by simpa using hj
    have b9 := wr8_bd a
    rw [wr8_id (x := 7) (by omega) (by omega)]
    refine w_mk (n := 4) ?_
    omega
  · obtain rfl : (wr8 21, wr8 18) = z9 := by simpa using hj
    have b9 := wr8_bd 18
    rw [wr8_id (x := 21) (by omega) (by omega)]
    rw [wr8_id (x := 18) (by omega) (by omega)]
    refine w_mk (n := 4) ?_
    omega
  · obtain rfl : (wr8 10, wr8 y) = z9 := by simpa using hj
    have b9 := wr8_bd y
    rw [wr8_id (x := 10) (by omega) (by omega)]
    rw [wr8_id (x := y) (by omega) (by omega)]
    refine w_mk (n := 4) ?_
    omega
  · obtain rfl : (wr8 8, wr8 0) = z9 := by simpa using hj
    have b9 := wr8_bd 0
    rw [wr8_id (x := 8) (by omega) (by omega)]
    refine w_mk (n := 4) ?_
    omega
theorem w_G {l : List (Int × Int)} (h : pkG l) {j : Nat} {z9 : Int × Int} (hj : l[j]? = some z9) : insW j l.length z9 := by
  obtain ⟨x, k, s, z, hx, hk, hs, hz, rfl⟩ := h
  rcases (show j = 0 ∨ j = 1 ∨ j = 2 ∨ j = 3 ∨ j = 4 by have := (List.getElem?_eq_some_iff.1 hj).1; simp at this; omega) with rfl | rfl | rfl | rfl | rfl
  · obtain rfl : (wr8 0, wr8 x) = z9 := by simpa using hj
    have b9 := wr8_bd x
    rw [wr8_id (x := 0) (by omega) (by omega)]
    rw [wr8_id (x := x) (by omega) (by omega)]
    refine w_mk (n := 5) ?_
    omega
  · obtain rfl : (wr8 7, wr8 k) = z9 := by simpa using hj
    have b9 := wr8_bd k
    rw [wr8_id (x := 7) (by omega) (by omega)]
    refine w_mk (n := 5) ?_
    omega
  · obtain rfl : (wr8 s, wr8 z) = z9 := by simpa using hj
    have b9 := wr8_bd z
    rw [wr8_id (x := s) (by omega) (by omega)]
    rw [wr8_id (x := z) (by omega) (by omega)]
    refine w_mk (n := 5) ?_
    omega
  · obtain rfl : (wr8 21, wr8 9) = z9 := by simpa using hj
    have b9 := wr8_bd 9
    rw [wr8_id (x := 21) (by omega) (by omega)]
    rw [wr8_id (x := 9) (by omega) (by omega)]
    refine w_mk (n := 5) ?_
    omega
  · obtain rfl : (wr8 8, wr8 0) = z9 := by simpa using hj
    have b9 := wr8_bd 0
    rw [wr8_id (x := 8) (by omega) (by omega)]
    refine w_mk (n := 5) ?_
    omega
theorem w_H {l : List (Int × Int)} (h : pkH l) {j : Nat} {z9 : Int × Int} (hj : l[j]? = some z9) : insW j l.length z9 := by
  obtain ⟨x, k, hx, hk, rfl⟩ := h
  rcases (show j = 0 ∨ j = 1 ∨ j = 2 ∨ j = 3 by have := (List.getElem?_eq_some_iff.1 hj).1; simp at this; omega) with rfl | rfl | rfl | rfl
  · obtain rfl : (wr8 0, wr8 x) = z9 := by simpa using hj
    have b9 := wr8_bd x
    rw [wr8_id (x := 0) (by omega) (by omega)]
    rw [wr8_id (x := x) (by omega) (by omega)]
    refine w_mk (n := 4) ?_
    omega
  · obtain rfl : (wr8 7, wr8 k) = z9 := by simpa using hj
    have b9 := wr8_bd k
    rw [wr8_id (x := 7) (by omega) (by omega)]
    refine w_mk (n := 4) ?_
    omega
  · obtain rfl : (wr8 21, wr8 8) = z9 := by simpa using hj
    have b9 := wr8_bd 8
    rw [wr8_id (x := 21) (by omega) (by omega)]
    rw [wr8_id (x := 8) (by omega) (by omega)]
    refine w_mk (n := 4) ?_
    omega
  · obtain rfl : (wr8 21, wr8 10) = z9 := by simpa using hj
    have b9 := wr8_bd 10
    rw [wr8_id (x := 21) (by omega) (by omega)]
    rw [wr8_id (x := 10) (by omega) (by omega)]
    refine w_mk (n := 4) ?_
    omega
theorem w_I {l : List (Int × Int)} (h : pkI l) {j : Nat} {z9 : Int × Int} (hj : l[j]? = some z9) : insW j l.length z9 := by
  unfold pkI at h
  subst h
  rcases (show j = 0 ∨ j = 1 ∨ j = 2 by have := (List.getElem?_eq_some_iff.1 hj).1; simp at this; omega) with rfl | rfl | rfl
  · obtain rfl : (wr8 18, wr8 12) = z9 := by simpa using hj
    have b9 := wr8_bd 12
    rw [wr8_id (x := 18) (by omega) (by omega)]
    rw [wr8_id (x := 12) (by omega) (by omega)]
    refine w_mk (n := 3) ?_
    omega
  · obtain rfl : (wr8 21, wr8 11) = z9 := by simpa using hj
    have b9 := wr8_bd 11
    rw [wr8_id (x := 21) (by omega) (by omega)]
    rw [wr8_id (x := 11) (by omega) (by omega)]
    refine w_mk (n := 3) ?_
    omega
  · obtain rfl : (wr8 8, wr8 0) = z9 := by simpa using hj
    have b9 := wr8_bd 0
    rw [wr8_id (x := 8) (by omega) (by omega)]
    refine w_mk (n := 3) ?_
    omega
theorem w_J {l : List (Int × Int)} (h : pkJ l) {j : Nat} {z9 : Int × Int} (hj : l[j]? = some z9) : insW j l.length z9 := by
  obtain ⟨a, ha, rfl⟩ := h
  rcases (show j = 0 ∨ j = 1 ∨ j = 2 ∨ j = 3 by have := (List.getElem?_eq_some_iff.1 hj).1; simp at this; omega) with rfl | rfl | rfl | rfl
  · obtain rfl : (wr8 18, wr8 13) = z9 := by simpa using hj
    have b9 := wr8_bd 13
    rw [wr8_id (x := 18) (by omega) (by omega)]
    rw [wr8_id (x := 13) (by omega) (by omega)]
    refine w_mk (n := 4) ?_
    omega
  · obtain rfl : (wr8 7, wr8 a) = z9 := by simpa using hj
    have b9 := wr8_bd a
    rw [wr8_id (x := 7) (by omega) (by omega)]
    refine w_mk (n := 4) ?_
    omega
  · obtain rfl : (wr8 21, wr8 12) = z9 := by simpa using hj
    have b9 := wr8_bd 12
    rw [wr8_id (x := 21) (by omega) (by omega)]
    rw [wr8_id (x := 12) (by omega) (by omega)]
    refine w_mk (n := 4) ?_
    omega
  · obtain rfl : (wr8 8, wr8 0) = z9 := by simpa using hj
    have b9 := wr8_bd 0
    rw [wr8_id (x := 8) (by omega) (by omega)]
    refine w_mk (n := 4) ?_
    omega
theorem w_K {l : List (Int × Int)} (h : pkK l) {j : Nat} {z9 : Int × Int} (hj : l[j]? = some z9) : insW j l.length z9 := by
  obtain ⟨k, hk, rfl⟩ := h
  rcases (show j = 0 ∨ j = 1 ∨ j = 2 ∨ j = 3 by have := (List.getElem?_eq_some_iff.1 hj).1; simp at this; omega) with rfl | rfl | rfl | rfl
  · obtain rfl : (wr8 18, wr8 12) = z9 := by simpa using hj
    have b9 := wr8_bd 12
    rw [wr8_id (x := 18) (by omega) (by omega)]
    rw [wr8_id (x := 12) (by omega) (by omega)]
    refine w_mk (n := 4) ?_
    omega
  · obtain rfl : (wr8 7, wr8 k) = z9 := by simpa using hj
    have b9 := wr8_bd k
    rw [wr8_id (x := 7) (by omega) (by omega)]
    refine w_mk (n := 4) ?_
    omega
  · obtain rfl : (wr8 21, wr8 13) = z9 := by simpa using hj
    have b9 := wr8_bd 13
    rw [wr8_id (x := 21) (by omega) (by omega)]
    rw [wr8_id (x := 13) (by omega) (by omega)]
    refine w_mk (n := 4) ?_
    omega
  · obtain rfl : (wr8 8, wr8 0) = z9 := by simpa using hj
    have b9 := wr8_bd 0
    rw [wr8_id (x := 8) (by omega) (by omega)]
    refine w_mk (n := 4) ?_
    omega
theorem w_L {l : List (Int × Int)} (h : pkL l) {j : Nat} {z9 : Int × Int} (hj : l[j]? = some z9) : insW j l.length z9 := by
  obtain ⟨k, x, hk, hx, rfl⟩ := h
  rcases (show j = 0 ∨ j = 1 ∨ j = 2 by have := (List.getElem?_eq_some_iff.1 hj).1; simp at this; omega) with rfl | rfl | rfl
  · obtain rfl : (wr8 7, wr8 k) = z9 := by simpa using hj
    have b9 := wr8_bd k
    rw [wr8_id (x := 7) (by omega) (by omega)]
    refine w_mk (n := 3) ?_
    omega
  · obtain rfl : (wr8 21, wr8 (15 + x)) = z9 := by simpa using hj
    have b9 := wr8_bd (15 + x)
    rw [wr8_id (x := 21) (by omega) (by omega)]
    rw [wr8_id (x := (15 + x)) (by omega) (by omega)]
    refine w_mk (n := 3) ?_
    omega
  · obtain rfl : (wr8 8, wr8 0) = z9 := by simpa using hj
    have b9 := wr8_bd 0
    rw [wr8_id (x := 8) (by omega) (by omega)]
    refine w_mk (n := 3) ?_
    omega
theorem w_M {l : List (Int × Int)} (h : pkM l) {j : Nat} {z9 : Int × Int} (hj : l[j]? = some z9) : insW j l.length z9 := by
  obtain ⟨s, hs, rfl⟩ := h
  rcases (show j = 0 ∨ j = 1 by have := (List.getElem?_eq_some_iff.1 hj).1; simp at this; omega) with rfl | rfl
  · obtain rfl : (wr8 21, wr8 s) = z9 := by simpa using hj
    have b9 := wr8_bd s
    rw [wr8_id (x := 21) (by omega) (by omega)]
    rw [wr8_id (x := s) (by omega) (by omega)]
    refine w_mk (n := 2) ?_
    omega
  · obtain rfl : (wr8 8, wr8 0) = z9 := by simpa using hj
    have b9 := wr8_bd 0
    rw [wr8_id (x := 8) (by omega) (by omega)]
    refine w_mk (n := 2) ?_
    omega
theorem w_N {l : List (Int × Int)} (h : pkN l) {j : Nat} {z9 : Int × Int} (hj : l[j]? = some z9) : insW j l.length z9 := by
  obtain ⟨x, a, hx, ha, rfl⟩ := h
  rcases (show j = 0 ∨ j = 1 ∨ j = 2 ∨ j = 3 by have := (List.getElem?_eq_some_iff.1 hj).1; simp at this; omega) with rfl | rfl | rfl | rfl
  · obtain rfl : (wr8 (5 + x), wr8 0) = z9 := by simpa using hj
    have b9 := wr8_bd 0
    rw [wr8_id (x := (5 + x)) (by omega) (by omega)]
    refine w_mk (n := 4) ?_
    omega
  · obtain rfl : (wr8 17, wr8 1) = z9 := by simpa using hj
    have b9 := wr8_bd 1
    rw [wr8_id (x := 17) (by omega) (by omega)]
    rw [wr8_id (x := 1) (by omega) (by omega)]
    refine w_mk (n := 4) ?_
    omega
  · obtain rfl : (wr8 7, wr8 a) = z9 := by simpa using hj
    have b9 := wr8_bd a
    rw [wr8_id (x := 7) (by omega) (by omega)]
    refine w_mk (n := 4) ?_
    omega
  · obtain rfl : (wr8 8, wr8 0) = z9 := by simpa using hj
    have b9 := wr8_bd 0
    rw [wr8_id (x := 8) (by omega) (by omega)]
    refine w_mk (n := 4) ?_
    omega
theorem w_O {l : List (Int × Int)} (h : pkO l) {j : Nat} {z9 : Int × Int} (hj : l[j]? = some z9) : insW j l.length z9 := by
  obtain ⟨k, hk, rfl⟩ := h
  rcases (show j = 0 ∨ j = 1 ∨ j = 2 ∨ j = 3 ∨ j = 4 by have := (List.getElem?_eq_some_iff.1 hj).1; simp at this; omega) with rfl | rfl | rfl | rfl | rfl
  · obtain rfl : (wr8 0, wr8 0) = z9 := by simpa using hj
    have b9 := wr8_bd 0
    rw [wr8_id (x := 0) (by omega) (by omega)]
    refine w_mk (n := 5) ?_
    omega
  · obtain rfl : (wr8 0, wr8 1) = z9 := by simpa using hj
    have b9 := wr8_bd 1
    rw [wr8_id (x := 0) (by omega) (by omega)]
    rw [wr8_id (x := 1) (by omega) (by omega)]
    refine w_mk (n := 5) ?_
    omega
  · obtain rfl : (wr8 7, wr8 k) = z9 := by simpa using hj
    have b9 := wr8_bd k
    rw [wr8_id (x := 7) (by omega) (by omega)]
    refine w_mk (n := 5) ?_
    omega
  · obtain rfl : (wr8 21, wr8 19) = z9 := by simpa using hj
    have b9 := wr8_bd 19
    rw [wr8_id (x := 21) (by omega) (by omega)]
    rw [wr8_id (x := 19) (by omega) (by omega)]
    refine w_mk (n := 5) ?_
    omega
  · obtain rfl : (wr8 8, wr8 0) = z9 := by simpa using hj
    have b9 := wr8_bd 0
    rw [wr8_id (x := 8) (by omega) (by omega)]
    refine w_mk (n := 5) ?_
    omega
theorem w_P {l : List (Int × Int)} (h : pkP l) {j : Nat} {z9 : Int × Int} (hj : l[j]? = some z9) : insW j l.length z9 := by
  obtain ⟨s, hs, rfl⟩ := h
  rcases (show j = 0 ∨ j = 1 ∨ j = 2 ∨ j = 3 by have := (List.getElem?_eq_some_iff.1 hj).1; simp at this; omega) with rfl | rfl | rfl | rfl
  · obtain rfl : (wr8 0, wr8 0) = z9 := by simpa using hj
    have b9 := wr8_bd 0
    rw [wr8_id (x := 0) (by omega) (by omega)]
    refine w_mk (n := 4) ?_
    omega
  · obtain rfl : (wr8 0, wr8 1) = z9 := by simpa using hj
    have b9 := wr8_bd 1
    rw [wr8_id (x := 0) (by omega) (by omega)]
    rw [wr8_id (x := 1) (by omega) (by omega)]
    refine w_mk (n := 4) ?_
    omega
  · obtain rfl : (wr8 21, wr8 s) = z9 := by simpa using hj
    have b9 := wr8_bd s
    rw [wr8_id (x := 21) (by omega) (by omega)]
    rw [wr8_id (x := s) (by omega) (by omega)]
    refine w_mk (n := 4) ?_
    omega
  · obtain rfl : (wr8 8, wr8 0) = z9 := by simpa using hj
    have b9 := wr8_bd 0
    rw [wr8_id (x := 8) (by omega) (by omega)]
    refine w_mk (n := 4) ?_
    omega
theorem w_Q {l : List (Int × Int)} (h : pkQ l) {j : Nat} {z9 : Int × Int} (hj : l[j]? = some z9) : insW j l.length z9 := by
  obtain ⟨x, y, hx, hy, rfl⟩ := h
  rcases (show j = 0 ∨ j = 1 ∨ j = 2 by have := (List.getElem?_eq_some_iff.1 hj).1; simp at this; omega) with rfl | rfl | rfl
  · obtain rfl : (wr8 1, wr8 x) = z9 := by simpa using hj
    have b9 := wr8_bd x
    rw [wr8_id (x := 1) (by omega) (by omega)]
    rw [wr8_id (x := x) (by omega) (by omega)]
    refine w_mk (n := 3) ?_
    omega
  · obtain rfl : (wr8 11, wr8 y) = z9 := by simpa using hj
    have b9 := wr8_bd y
    rw [wr8_id (x := 11) (by omega) (by omega)]
    rw [wr8_id (x := y) (by omega) (by omega)]
    refine w_mk (n := 3) ?_
    omega
  · obtain rfl : (wr8 8, wr8 0) = z9 := by simpa using hj
    have b9 := wr8_bd 0
    rw [wr8_id (x := 8) (by omega) (by omega)]
    refine w_mk (n := 3) ?_
    omega
theorem w_R {l : List (Int × Int)} (h : pkR l) {j : Nat} {z9 : Int × Int} (hj : l[j]? = some z9) : insW j l.length z9 := by
  obtain ⟨x, y, hx, hy, rfl⟩ := h
  rcases (show j = 0 ∨ j = 1 by have := (List.getElem?_eq_some_iff.1 hj).1; simp at this; omega) with rfl | rfl
  · obtain rfl : (wr8 0, wr8 x) = z9 := by simpa using hj
    have b9 := wr8_bd x
    rw [wr8_id (x := 0) (by omega) (by omega)]
    rw [wr8_id (x := x) (by omega) (by omega)]
    refine w_mk (n := 2) ?_
    omega
  · obtain rfl : (wr8 11, wr8 y) = z9 := by simpa using hj
    have b9 := wr8_bd y
    rw [wr8_id (x := 11) (by omega) (by omega)]
    rw [wr8_id (x := y) (by omega) (by omega)]
    refine w_mk (n := 2) ?_
    omega
theorem piece_w {l : List (Int × Int)} (h : pieceOk l) {j : Nat} {y : Int × Int} (hj : l[j]? = some y) : insW j l.length y := by
  rcases h with h | h | h | h | h | h | h | h | h | h | h | h | h | h | h | h | h | h
  · exact w_A h hj
  · exact w_B h hj
  · exact w_C h hj
  · exact w_D h hj
  · exact w_E h hj
  · exact w_F h hj
  · exact w_G h hj
  · exact w_H h hj
  · exact w_I h hj
  · exact w_J h hj
  · exact w_K h hj
  · exact w_L h hj
  · exact w_M h hj
  · exact w_N h hj
  · exact w_O h hj
  · exact w_P h hj
  · exact w_Q h hj
  · exact w_R h hj
/-- what is right in a row is right in a longer one, that many instructions in, as long as one follows -/
theorem insW.in {j n o N : Nat} {y : Int × Int} (h : insW j n y) (hN : o + n < N) : insW (o + j) N y ∧ (y.1 = 17 → ((o + j : Nat) : Int) + 1 + y.2 < N) := by
  rcases h with h | h | h | h | h | h | ⟨h, h2⟩ | h | h
  · exact ⟨Or.inl h, fun e => by clear hN; omega⟩
  · exact ⟨Or.inr (Or.inl h), fun e => by clear hN; omega⟩
  · exact ⟨Or.inr (Or.inr (Or.inl h)), fun e => by clear hN; omega⟩
  · exact ⟨Or.inr (Or.inr (Or.inr (Or.inl h))), fun e => by clear hN; omega⟩
  · exact ⟨Or.inr (Or.inr (Or.inr (Or.inr (Or.inl h)))), fun e => by clear hN; omega⟩
  · exact ⟨Or.inr (Or.inr (Or.inr (Or.inr (Or.inr (Or.inl h))))), fun e => by clear hN; omega⟩
  · exact ⟨Or.inr (Or.inr (Or.inr (Or.inr (Or.inr (Or.inr (Or.inl ⟨h, by omega⟩)))))), fun e => by omega⟩
  · exact ⟨Or.inr (Or.inr (Or.inr (Or.inr (Or.inr (Or.inr (Or.inr (Or.inl h))))))), fun e => by clear hN; omega⟩
  · exact ⟨Or.inr (Or.inr (Or.inr (Or.inr (Or.inr (Or.inr (Or.inr (Or.inr h))))))), fun e => by clear hN; omega⟩
theorem w_n {j n : Nat} {a b : Int} (h : (3 ≤ a ∧ a ≤ 9) ∨ a = 14 ∨ a = 19) : insW j n (a, b) := Or.inr (Or.inr (Or.inr (Or.inr (Or.inr (Or.inr (Or.inr (Or.inr h)))))))
theorem w_t {j n : Nat} {a b : Int} (h : a = 0 ∨ a = 10) (h2 : b < 2) : insW j n (a, b) := Or.inl ⟨h, h2⟩
theorem w_s {j n : Nat} {a b : Int} (h : a = 12 ∨ a = 13) (h2 : 4 ≤ b) (h3 : b < 10) : insW j n (a, b) := Or.inr (Or.inr (Or.inr (Or.inl ⟨h, h2, h3⟩)))
/-- .. wherever in the code it stands -/
def insG (N k : Nat) (y : Int × Int) : Prop := insW k N y ∧ (y.1 = 17 → (k : Int) + 1 + y.2 < N)
theorem flatten_g : ∀ (P : List (List (Int × Int))) (o N : Nat), (∀ x ∈ P, pieceOk x) → o + P.flatten.length < N → ∀ k y, P.flatten[k]? = some y → insG N (o + k) y
  | [], _, _, _, _, k, y, hy => by simp at hy
  | l :: P, o, N, hP, hN, k, y, hy => by
    rw [List.flatten_cons] at hy hN
    rw [List.length_append] at hN
    by_cases hk : k < l.length
    · rw [List.getElem?_append_left hk] at hy
      exact (piece_w (hP l (by simp)) hy).in (by omega)
    · rw [List.getElem?_append_right (by omega)] at hy
      have := flatten_g P (o + l.length) N (fun x hx => hP x (by simp [hx])) (by omega) (k - l.length) y hy
      rw [show o + k = o + l.length + (k - l.length) by omega]
      exact this
theorem code_g {b : Bool} {I : List (Int × Int)} (h : codeOk b I) : ∀ k y, I[k]? = some y → insG I.length k y := by
  obtain ⟨P, S, q, r, l, hI, h1, h5, hP, hS, hq, hr, hl⟩ := h
  intro k y hy
  have hlen : I.length = P.flatten.length + S.length + 2 := by rw [hI]; simp; omega
  generalize I.length = N at *
  rw [hI, List.append_assoc] at hy
  clear hI
  by_cases hk : k < P.flatten.length
  · rw [List.getElem?_append_left hk] at hy
    have := flatten_g P 0 N hP (by omega) k y hy
    rwa [Nat.zero_add] at this
  rw [List.getElem?_append_right (by omega)] at hy
  generalize k - P.flatten.length = k2 at *
  clear hP h1 h5 hk
  by_cases hk2 : k2 < S.length
  · rw [List.getElem?_append_left hk2] at hy
    rcases hS with rfl | rfl
    · simp at hk2
    · simp only [List.length_cons, List.length_nil] at hk2
      rcases (show k2 = 0 ∨ k2 = 1 by omega) with e | e
      · rw [e] at hy
        obtain rfl : (wr8 3, wr8 0) = y := by simpa using hy
        rw [wr8_id (x := 3) (by omega) (by omega)]
        exact ⟨w_n (by omega), fun e => by simp only at e; omega⟩
      · rw [e] at hy
        obtain rfl : (wr8 13, wr8 4) = y := by simpa using hy
        rw [wr8_id (x := 13) (by omega) (by omega), wr8_id (x := 4) (by omega) (by omega)]
        exact ⟨w_s (by omega) (by omega) (by omega), fun e => by simp only at e; omega⟩
  rw [List.getElem?_append_right (by omega)] at hy
  have hk3 := (List.getElem?_eq_some_iff.1 hy).1
  simp only [List.length_cons, List.length_nil] at hk3
  generalize k2 - S.length = k3 at *
  clear hS hk2 hlen
  rcases (show k3 = 0 ∨ k3 = 1 by omega) with e | e
  · rw [e] at hy
    obtain rfl : (wr8 q, wr8 r) = y := by simpa using hy
    rw [wr8_id (x := q) (by omega) (by omega), wr8_id (x := r) (by omega) (by omega)]
    by_cases q0 : q = 0
    · exact ⟨w_t (by omega) (by omega), fun e => by simp only at e; omega⟩
    · exact ⟨w_n (by omega), fun e => by simp only at e; omega⟩
  · rw [e] at hy
    obtain rfl : (wr8 l, wr8 0) = y := by simpa using hy
    rw [wr8_id (x := l) (by omega) (by omega), wr8_id (x := 0) (by omega) (by omega)]
    exact ⟨w_n (by omega), fun e => by simp only at e; omega⟩
theorem flat_at : ∀ (I : List (Int × Int)) (k : Nat) (y : Int × Int), I[k]? = some y → byAt (flat I) (2 * k) = y.1 ∧ byAt (flat I) (2 * k + 1) = y.2
  | [], k, y, h => by simp at h
  | x :: I, 0, y, h => by
    obtain rfl : x = y := by simpa using h
    exact ⟨rfl, rfl⟩
  | x :: I, k + 1, y, h => by
    have := flat_at I k y (by simpa using h)
    rw [show 2 * (k + 1) = 2 * k + 1 + 1 by omega, show 2 * k + 1 + 1 + 1 = (2 * k + 1) + 2 by omega]
    exact this
/-- the literals of a tape's method, by number -/
theorem lits_k {c : Int} {X : List (Int × Int)} (h : litsOk c X) : X.length = 14 ∧ (∀ i : Nat, i < 4 → (litAt X i).1 = 3) ∧ (∀ i : Nat, 4 ≤ i → i < 10 → (litAt X i).1 = 5) ∧ (∀ i : Nat, 10 ≤ i → i < 12 → (litAt X i).1 = 6 ∧ 1 < (litAt X i).2) ∧ (∀ i : Nat, 12 ≤ i → i < 14 → (litAt X i).1 = 7) := by
  obtain ⟨A, B, rfl, hA, hB, h1, h2⟩ := h
  have hS : (sels 6).length = 6 := by decide
  match A, hA, B, hB with
  | [a, b, c, d], _, [e, f], _ =>
    refine ⟨by simp [hS], fun i hi => ?_, fun i hi hj => ?_, fun i hi hj => ?_, fun i hi hj => ?_⟩
    · rcases (show i = 0 ∨ i = 1 ∨ i = 2 ∨ i = 3 by omega) with rfl | rfl | rfl | rfl
      · exact (h1 a (by simp)).1
      · exact (h1 b (by simp)).1
      · exact (h1 c (by simp)).1
      · exact (h1 d (by simp)).1
    · rcases (show i = 4 ∨ i = 5 ∨ i = 6 ∨ i = 7 ∨ i = 8 ∨ i = 9 by omega) with rfl | rfl | rfl | rfl | rfl | rfl <;> rfl
    · rcases (show i = 10 ∨ i = 11 by omega) with rfl | rfl
      · obtain ⟨p, q, _⟩ := h2 e (by simp)
        exact ⟨p, by have : (litAt ([a, b, c, d] ++ sels 6 ++ [e, f] ++ [(7, 7), (7, 8)]) ((10 : Nat) : Int)) = e := rfl; rw [this]; omega⟩
      · obtain ⟨p, q, _⟩ := h2 f (by simp)
        exact ⟨p, by have : (litAt ([a, b, c, d] ++ sels 6 ++ [e, f] ++ [(7, 7), (7, 8)]) ((11 : Nat) : Int)) = f := rfl; rw [this]; omega⟩
    · rcases (show i = 12 ∨ i = 13 by omega) with rfl | rfl <;> rfl
theorem has_at {X : List (Int × Int)} {i kind : Int} (h0 : 0 ≤ i) (h1 : i < (X.length : Int)) (h : (litAt X i).1 = kind) : hasLit X i kind = true := by
  unfold hasLit
  rw [decide_eq_true h1, decide_eq_true h]; rfl
theorem ins_ok {c : Int} {m : MethA} (hl : litsOk c m.lits) (ht : m.temps = 2) (ha : 0 ≤ m.args) {k N : Nat} (hN : m.code.length = 2 * N) {y : Int × Int} (hy : 0 ≤ y.2) (h : insG N k y) : insR m ((2 * k : Nat) : Int) y.1 y.2 = true := by
  obtain ⟨n14, l3, l5, l6, l7⟩ := lits_k hl
  obtain ⟨h, hj⟩ := h
  obtain ⟨op, arg⟩ := y
  unfold insW at h
  simp only at h hj hy ⊢
  obtain ⟨i, rfl⟩ : ∃ i : Nat, arg = i := ⟨arg.toNat, by omega⟩
  have hh3 : i < 4 → hasLit m.lits (i : Int) 3 = true := fun g => has_at (by omega) (by omega) (l3 i g)
  have hh5 : 4 ≤ i → i < 10 → hasLit m.lits (i : Int) 5 = true := fun g g2 => has_at (by omega) (by omega) (l5 i g g2)
  have hh6 : 10 ≤ i → i < 12 → hasLit m.lits (i : Int) 6 = true ∧ 1 < (litAt m.lits (i : Int)).2 := fun g g2 => ⟨has_at (by omega) (by omega) (l6 i g g2).1, (l6 i g g2).2⟩
  have hh7 : 12 ≤ i → i < 14 → hasLit m.lits (i : Int) 7 = true := fun g g2 => has_at (by omega) (by omega) (l7 i g g2)
  unfold insR
  by_cases e0 : op = 0 ∨ op = 10
  · rw [if_pos e0]; exact decide_eq_true (by omega)
  rw [if_neg e0]
  by_cases e1 : op = 1 ∨ op = 11
  · rw [if_pos e1]; exact decide_eq_true (by omega)
  rw [if_neg e1]
  by_cases e2 : op = 2
  · rw [if_pos e2]; exact hh3 (by omega)
  rw [if_neg e2]
  by_cases e3 : op = 12 ∨ op = 13
  · rw [if_pos e3]; exact hh5 (by omega) (by omega)
  rw [if_neg e3]
  by_cases e4 : op = 20
  · rw [if_pos e4, (hh6 (by omega) (by omega)).1]; exact decide_eq_true (hh6 (by omega) (by omega)).2
  rw [if_neg e4]
  by_cases e5 : op = 18
  · rw [if_pos e5]; exact hh7 (by omega) (by omega)
  rw [if_neg e5]
  by_cases e6 : op = 15 ∨ op = 17
  · rw [if_pos e6, hN]; exact decide_eq_true (by have := hj (by omega); omega)
  rw [if_neg e6]
  by_cases e7 : op = 16
  · omega
  rw [if_neg e7]
  by_cases e8 : op = 21
  · rw [if_pos e8]; exact decide_eq_true (by omega)
  rw [if_neg e8]
  exact decide_eq_true (by omega)
theorem insF_ok {m : MethA} {N : Nat} : ∀ (f k : Nat), f + k = N → (∀ j, k ≤ j → j < N → insR m ((2 * j : Nat) : Int) (byAt m.code (2 * j)) (byAt m.code (2 * j + 1)) = true) → insF m f (2 * k) = true
  | 0, k, _, _ => rfl
  | f + 1, k, e, h => by
    rw [insF, h k (Nat.le_refl _) (by omega), Bool.true_and, show 2 * k + 2 = 2 * (k + 1) by omega]
    exact insF_ok f (k + 1) (by omega) (fun j hj hj2 => h j (by omega) hj2)
/-- a tape's method is right, within a program that has its names, its classes, nine methods -/
theorem meth_ok {c : Int} {j : Nat} {m : MethA} (h : methOk c j m) (hj : j < 9) {nn nc nm : Nat} (hn : nn = 6) (hc : c = (nc : Int)) (hm : nm = 9) : metR m nn nc nm = 0 := by
  obtain ⟨I, hI, eI⟩ := h.code
  have hfl : m.code.length = 2 * I.length := by rw [eI, flat_len]
  obtain ⟨n14, l3, l5, l6, l7⟩ := lits_k h.lits
  have ht := h.temps
  have ha : 0 ≤ m.args ∧ m.args ≤ 2 := by
    rw [h.args]
    split
    · exact argOf_le j
    · split <;> omega
  have hex := hI
  obtain ⟨P, S, q, r, l, eP, h1, h5, hP, hS, hq, hr, hl⟩ := hex
  have hPl := flatten_len P hP
  have hSl : S.length ≤ 2 := by rcases hS with rfl | rfl <;> simp
  have hIl : I.length = P.flatten.length + S.length + 2 := by rw [eP]; simp; omega
  have hlast : I[I.length - 1]? = some (wr8 l, wr8 0) := by
    rw [show I.length - 1 = P.flatten.length + S.length + 1 by omega, eP, List.getElem?_append_right (by rw [List.length_append]; omega), List.length_append, show P.flatten.length + S.length + 1 - (P.flatten.length + S.length) = 1 by omega]
    rfl
  have hby := flat_at I _ _ hlast
  rw [← eI, show 2 * (I.length - 1) = m.code.length - 2 by omega, show wr8 l = l from wr8_id (by omega) (by omega)] at hby
  unfold metR
  rw [if_neg (by omega), if_neg (by omega), if_neg (by rw [hby.1]; omega)]
  have hall : m.lits.all (fun x => litR x nn nc nm) = true := by
    rw [List.all_eq_true]
    intro x hx
    obtain ⟨A, B, e, hA, hB, g1, g2⟩ := h.lits
    rw [e] at hx
    simp only [List.mem_append] at hx
    rcases hx with ((hx | hx) | hx) | hx
    · obtain ⟨p, p2⟩ := g1 x hx
      obtain ⟨a, b⟩ := x
      simp only at p p2
      subst p
      show num30 b = true
      unfold num30
      rcases p2 with rfl | rfl | rfl | rfl | rfl <;> decide
    · unfold sels at hx
      obtain ⟨i, hi, rfl⟩ := List.mem_map.1 hx
      have := List.mem_range.1 hi
      refine (lit_sel _ _ _ _).trans ?_
      unfold inN
      rw [decide_eq_true (by omega), decide_eq_true (by omega)]; rfl
    · obtain ⟨p, p2, p3⟩ := g2 x hx
      obtain ⟨a, b⟩ := x
      simp only at p p2 p3
      subst p
      refine (lit_cls _ _ _ _).trans ?_
      unfold inN
      rw [decide_eq_true (by omega), decide_eq_true (by omega)]; rfl
    · simp only [List.mem_cons, List.not_mem_nil, or_false] at hx
      subst hm
      rcases hx with rfl | rfl <;> rfl
  rw [hall, if_neg (by decide)]
  have hins : insF m (m.code.length / 2) 0 = true := by
    rw [show m.code.length / 2 = I.length by omega]
    refine insF_ok (N := I.length) I.length 0 (by omega) (fun k _ hk => ?_)
    obtain ⟨y, hy⟩ : ∃ y, I[k]? = some y := ⟨I[k], by simp⟩
    obtain ⟨e1, e2⟩ := flat_at I k y hy
    rw [← eI] at e1 e2
    rw [e1, e2]
    exact ins_ok h.lits ht ha.1 hfl ((codeOk_by hI y (List.mem_of_getElem? hy)).2.1) (code_g hI k y hy)
  rw [hins, if_neg (by decide)]
end Wd
end Go.Proofs.YtgfdgdbkifkehaaGreat

/- A tape's program is right, whatever objects that are right it has; with another main it is as good as that. -/
namespace Go.Proofs.YtgfdgdbkifkehaaGreat
open Go.RowKit
set_option linter.unusedVariables false
set_option maxRecDepth 20000
namespace Wd
theorem first_skip : ∀ (A B : List Int), (∀ x ∈ A, x = 0) → firstE (A ++ B) = firstE B
  | [], B, _ => rfl
  | x :: A, B, h => by
    rw [List.cons_append, firstE, if_pos (h x (by simp))]
    exact first_skip A B (fun y hy => h y (by simp [hy]))
theorem first_one (x : Int) : firstE [x] = x := by
  unfold firstE
  split
  · next e => rw [e]; rfl
  · rfl
/-- rows that go up, of numbers from k on, f of them -/
def ups : Nat → Nat → List (List Nat)
  | 0, _ => [[]]
  | f + 1, k => ups f (k + 1) ++ (ups f (k + 1)).map (k :: ·)
theorem ups_mem : ∀ (f k : Nat) (S : List Nat), S.Pairwise (· < ·) → (∀ s ∈ S, k ≤ s ∧ s < k + f) → S ∈ ups f k
  | 0, k, [], _, _ => by simp [ups]
  | 0, k, s :: S, _, h => by have := h s (by simp); omega
  | f + 1, k, [], _, _ => by
    unfold ups
    exact List.mem_append_left _ (ups_mem f (k + 1) [] List.Pairwise.nil (by simp))
  | f + 1, k, s :: S, hp, h => by
    unfold ups
    have hs := h s (by simp)
    have hS := List.pairwise_cons.1 hp
    by_cases e : s = k
    · subst e
      exact List.mem_append_right _ (List.mem_map_of_mem (ups_mem f (s + 1) S hS.2 (fun x hx => by have := hS.1 x hx; have := h x (by simp [hx]); omega)))
    · refine List.mem_append_left _ (ups_mem f (k + 1) (s :: S) hp (fun x hx => ?_))
      have h2 := h x hx
      rcases List.mem_cons.1 hx with e1 | e1
      · subst e1; omega
      · have := hS.1 x e1; omega
theorem ups_fit : ∀ S ∈ ups 6 0, eBinds (S.map (fun (s : Nat) => ((s : Int), (s : Int)))) = 0 := by decide +kernel
theorem bnd_fit {B : List (Int × Int)} (h : bndSub 6 B) : eBinds B = 0 := by
  obtain ⟨S, h1, h2, rfl⟩ := h
  exact ups_fit S (ups_mem 6 0 S h1 (fun s hs => by have := h2 s hs; omega))
theorem name_args : ∀ s : Nat, s < 6 → argsR (nmAt nameL (s : Int)) = argOf s := by decide +kernel
theorem name_ok : namesB nameL = true := by decide +kernel
theorem eArgs_zero {U : UnitA} : ∀ (C : List ClassA), (∀ c ∈ C, ∀ b ∈ c.binds, eArg U b = 0) → ∀ x ∈ eArgs U C, x = 0
  | [], _, x, hx => by simp [eArgs] at hx
  | c :: C, h, x, hx => by
    unfold eArgs at hx
    rcases List.mem_append.1 hx with hx | hx
    · obtain ⟨b, hb, rfl⟩ := List.mem_map.1 hx
      exact h c (by simp) b hb
    · exact eArgs_zero C (fun c hc => h c (by simp [hc])) x hx
/-- a program of a tape's names, classes and methods, and of objects that are right -/
structure TapeM (T U : UnitA) : Prop where
  ta : TapeU T
  n : U.names = T.names
  c : U.classes = T.classes
  m : U.methods = T.methods
  o1 : 1 ≤ U.objects.length
  o2 : U.objects.length ≤ 40
  ob : ∀ x ∈ U.objects, objB x U.classes U.objects.length = true
theorem TapeM.unit {T U : UnitA} (h : TapeM T U) : unitR U = mainE U := by
  have hn : U.names = nameL := h.n.trans h.ta.names
  have hml : U.methods.length = 9 := by rw [h.m]; exact h.ta.ml
  have hlong : longB U = false := by
    unfold longB
    rw [hn, hml]
    rw [decide_eq_false (show ¬ 48 < nameL.length by decide), decide_eq_false (show ¬ 9 < 1 by decide), decide_eq_false (show ¬ 32 < 9 by decide), decide_eq_false (show ¬ U.objects.length < 1 by have := h.o1; omega), decide_eq_false (show ¬ 40 < U.objects.length by have := h.o2; omega)]
    rfl
  have hsh : shapeR U.classes U.names.length U.methods.length = 0 := by
    rw [hn, hml, h.c]
    exact tape_right h.ta.tl (by have := h.ta.cl0; omega)
  unfold unitR
  rw [firstE, if_pos (by rw [hlong]; rfl), firstE, if_pos (by rw [hn, name_ok]; rfl), firstE, if_pos hsh]
  unfold restC
  rw [List.drop_zero, first_skip _ _ (fun x hx => ?_)]
  · unfold restM
    rw [List.drop_zero, first_skip _ _ (fun x hx => ?_)]
    · unfold restA
      rw [List.drop_zero, first_skip _ _ (eArgs_zero _ (fun c hc b hb => ?_))]
      · unfold restO
        rw [List.drop_zero, first_skip _ _ (fun x hx => ?_), first_one]
        obtain ⟨y, hy, rfl⟩ := List.mem_map.1 hx
        rw [if_pos (h.ob y hy)]
      · rw [h.c] at hc
        obtain ⟨k, hk⟩ := List.getElem?_of_mem hc
        obtain ⟨_, _, S, _, h2, e⟩ := h.ta.cls k c hk
        rw [e] at hb
        obtain ⟨s, hs, rfl⟩ := List.mem_map.1 hb
        have hs6 := h2 s hs
        unfold eArg
        rw [if_pos]
        simp only
        rw [hn, name_args s hs6]
        obtain ⟨x, hx⟩ : ∃ x, T.methods[s]? = some x := ⟨T.methods[s]'(by rw [h.ta.ml]; omega), by simp⟩
        unfold agAt
        rw [h.m, Int.toNat_natCast, hx]
        simp only
        rw [(h.ta.mts s x hx).args, if_pos hs6]
    · obtain ⟨y, hy, rfl⟩ := List.mem_map.1 hx
      rw [h.m] at hy
      obtain ⟨k, hk⟩ := List.getElem?_of_mem hy
      have hk9 := (List.getElem?_eq_some_iff.1 hk).1
      rw [h.ta.ml] at hk9
      exact meth_ok (h.ta.mts k y hk) hk9 (by rw [hn]; decide) (by rw [h.c]) hml
  · obtain ⟨y, hy, rfl⟩ := List.mem_map.1 hx
    rw [h.c] at hy
    obtain ⟨k, hk⟩ := List.getElem?_of_mem hy
    exact bnd_fit (h.ta.cls k y hk).2.2
theorem val_ok {N : Nat} {v : Int × Int} (h : valOk N v) : fldOk v N = true := by
  obtain ⟨a, b⟩ := v
  rcases h with h | h | h | ⟨h, h1, h2⟩ | ⟨h, h1, h2⟩
  · cases h; rfl
  · cases h; rfl
  · cases h; rfl
  · simp only at h h1 h2
    subst h
    rw [fld_3]; unfold num30
    rw [decide_eq_true (by omega), decide_eq_true (by omega)]; rfl
  · simp only at h h1 h2
    subst h
    rw [fld_4]; unfold inN
    rw [decide_eq_true (by omega), decide_eq_true (by omega)]; rfl
theorem obj_len {T : UnitA} (h : TapeU T) {k : Nat} {x : ObjA} (hx : T.objects[k]? = some x) : x.flds.length ≤ 8 ∧ 1 ≤ x.cls ∧ x.cls < (T.classes.length : Int) ∧ (1 < x.cls → (x.flds.length : Int) = clsF T.classes x.cls) := by
  have hc0 := h.cl0
  have hc1 := h.cl1
  rcases (h.obs k x hx).cls with ⟨h2, d, hd, e⟩ | ⟨_, e, h8⟩
  · obtain ⟨j, hj⟩ : ∃ j : Nat, x.cls = j := ⟨x.cls.toNat, by omega⟩
    rw [hj, Int.toNat_natCast] at hd
    have hjl := (List.getElem?_eq_some_iff.1 hd).1
    have hf := ((h.cls j d hd).1.fld (by omega))
    refine ⟨by omega, by omega, by omega, fun _ => ?_⟩
    rw [hj, clsF_at hd]
    exact e
  · exact ⟨h8, by omega, by omega, fun g => by omega⟩
theorem obj_ok {T : UnitA} (h : TapeU T) {x : ObjA} (hx : x ∈ T.objects) : objB x T.classes T.objects.length = true := by
  obtain ⟨k, hk⟩ := List.getElem?_of_mem hx
  obtain ⟨h8, g1, g2, g3⟩ := obj_len h hk
  rw [objB_yes (head_ok (by omega) (fun g => g.2 (g3 g.1)) (by omega)), List.all_eq_true]
  exact fun v hv => val_ok ((h.obs k x hk).flds v hv)
theorem TapeU.m {T : UnitA} (h : TapeU T) : TapeM T T := ⟨h, rfl, rfl, rfl, h.ob0, by have := h.ob1; omega, fun x hx => obj_ok h hx⟩
theorem TapeU.setm {T : UnitA} (h : TapeU T) (k : Int) : TapeM T { T with main := k } := ⟨h, rfl, rfl, rfl, h.ob0, by have := h.ob1; simp only; omega, fun x hx => obj_ok h hx⟩
theorem main_six {T U : UnitA} (h : TapeU T) (hm : U.methods = T.methods) (h6 : U.main = 6) : mainE U = 0 := by
  obtain ⟨x, hx⟩ : ∃ x, T.methods[6]? = some x := ⟨T.methods[6]'(by rw [h.ml]; omega), by simp⟩
  unfold mainE
  rw [if_pos]
  rw [hm, h6, h.ml]
  refine ⟨by decide, by decide, ?_⟩
  unfold agAt
  rw [show (6 : Int).toNat = 6 from rfl, hx]
  simp only
  rw [(h.mts 6 x hx).args]; rfl
/-- a tape's program is right -/
theorem TapeU.right {T : UnitA} (h : TapeU T) : unitR T = 0 := h.m.unit.trans (main_six h rfl h.main)
theorem meth_size {c : Int} {j : Nat} {x : MethA} (h : methOk c j x) : x.code.length ≤ 300 ∧ x.lits.length ≤ 20 := by
  refine ⟨?_, ?_⟩
  · obtain ⟨I, ⟨⟨P, S, q, r, l, hI, h1, h5, hP, hS, _⟩⟩, e⟩ := h.code
    have hfl := flatten_len P hP
    rw [e, flat_len, hI]
    have hSl : S.length ≤ 2 := by
      rcases hS with rfl | rfl <;> simp
    simp only [List.length_append, List.length_cons, List.length_nil]
    omega
  · have := (lits_k h.lits).1
    omega
theorem TapeU.zb {T : UnitA} (h : TapeU T) : Zb 300 T := by
  have hc0 := h.cl0
  have hc1 := h.cl1
  have ho0 := h.ob0
  have ho1 := h.ob1
  have hm := h.ml
  refine ⟨by rw [h.names]; decide, by omega, by omega, by omega, by omega, by omega, by omega, fun x hx => ?_, fun x hx => ?_, fun x hx => ?_, by rw [h.names]; decide, fun x hx => ?_⟩
  · obtain ⟨k, hk⟩ := List.getElem?_of_mem hx
    have := (h.cls k x hk).2.2.len
    omega
  · obtain ⟨k, hk⟩ := List.getElem?_of_mem hx
    have := meth_size (h.mts k x hk)
    omega
  · obtain ⟨k, hk⟩ := List.getElem?_of_mem hx
    have := (obj_len h hk).1
    omega
  · obtain ⟨k, hk⟩ := List.getElem?_of_mem hx
    have hk5 : k < 5 := by have := (List.getElem?_eq_some_iff.1 hk).1; omega
    have hc := (h.cls k x hk).1
    rcases (show k = 0 ∨ k = 1 ∨ 2 ≤ k by omega) with rfl | rfl | h2
    · rw [(hc.z rfl).1]; decide
    · rw [(hc.o rfl).1]; decide
    · rw [hc.nm h2]
      rcases (show k = 2 ∨ k = 3 ∨ k = 4 by omega) with rfl | rfl | rfl <;> decide
end Wd
end Go.Proofs.YtgfdgdbkifkehaaGreat

/- The chapter's runs. -/
namespace Go.Proofs.YtgfdgdbkifkehaaGreat
open Go.RowKit
set_option linter.unusedVariables false
set_option maxRecDepth 20000
namespace Wd
def kU : UnitA := ⟨[], [⟨⟨#[66]⟩, -1, 4, []⟩, ⟨⟨#[65]⟩, -1, 0, []⟩, ⟨⟨#[67]⟩, -1, 1, []⟩], [⟨0, 0, [], [3, 0, 14, 0]⟩], [⟨2, [(3, 5)]⟩], 0⟩
def zU : UnitA := ⟨[], [], [], [], 0⟩
theorem kU_right : unitR kU = 0 := by decide +kernel
theorem zU_right : unitR zU = 3 := by decide +kernel
theorem kU_f9 : findU kU.classes 9 0 = -1 := by decide +kernel
theorem kU_f2 : findU kU.classes 2 0 = -1 := by decide +kernel
theorem kU_w : wordsB kU.objects = 4 := by decide +kernel
theorem kU_sz : Sz kU := ⟨by decide, by decide, by decide, by decide, by decide, by decide, by decide, by decide, by decide⟩
theorem sameU_obj {U V : UnitA} (h : ¬ U.objects = V.objects) : sameU U V = false := by
  cases e : sameU U V with
  | false => rfl
  | true => exact absurd (by rw [(sameU_iff U V).1 e]) h
theorem zU_k (w : World) : UnK w (.agg #[.slice none 0 0, .slice none 0 0, .slice none 0 0, .slice none 0 0, .int .i64 0]) zU :=
  ⟨⟨none, 0, none, 0, none, 0, none, 0, rfl, ⟨⟨none, 0, rfl, by decide, by decide, fun k x h => by simp [zU] at h⟩, ⟨none, 0, rfl, by decide, by decide, fun k x h => by simp [zU] at h⟩, ⟨none, 0, rfl, by decide, by decide, fun k x h => by simp [zU] at h⟩, ⟨none, 0, rfl, by decide, by decide, fun k x h => by simp [zU] at h⟩⟩⟩⟩
theorem i64s {x : Int} (h0 : -1000 ≤ x) (h1 : x ≤ 1000) : In64 x := in64_of (by omega) (by omega)
theorem kU_born {w : World} {s s1 s2 s3 s4 : Nat} (h0 : w.heap[s]? = some (.cells #[.string ⟨#[66]⟩, .int .i64 (-1), .int .i64 4, .slice none 0 0, .string ⟨#[65]⟩, .int .i64 (-1), .int .i64 0, .slice none 0 0, .string ⟨#[67]⟩, .int .i64 (-1), .int .i64 1, .slice none 0 0] 45 (0, 0))) (h1 : w.heap[s1]? = some (.cells #[.int .u8 3, .int .u8 0, .int .u8 14, .int .u8 0] 5 (0, 0))) (h2 : w.heap[s2]? = some (.cells #[.int .i64 0, .int .i64 0, .slice none 0 0, .slice (some ⟨s1, 0, none⟩) 4 4] 50 (0, 0))) (h3 : w.heap[s3]? = some (.cells #[.int .i64 3, .int .i64 5] 57 (0, 0))) (h4 : w.heap[s4]? = some (.cells #[.int .i64 2, .slice (some ⟨s3, 0, none⟩) 1 1] 55 (0, 0))) : UnK w (.agg #[.slice none 0 0, .slice (some ⟨s, 0, none⟩) 3 3, .slice (some ⟨s2, 0, none⟩) 1 1, .slice (some ⟨s4, 0, none⟩) 1 1, .int .i64 0]) kU := by
  have hb : ByV w (.slice (some ⟨s1, 0, none⟩) 4 4) [3, 0, 14, 0] := by
    refine ⟨_, 4, rfl, by simp, by decide, fun k x hx => ?_⟩
    have hk : k < 4 := by have := (List.getElem?_eq_some_iff.1 hx).1; simpa using this
    rcases (show k = 0 ∨ k = 1 ∨ k = 2 ∨ k = 3 by omega) with rfl | rfl | rfl | rfl <;> (simp at hx; subst hx; exact ⟨by omega, _, 0, rfl, cell_in h1 rfl⟩)
  have hf : PrV w (.slice (some ⟨s3, 0, none⟩) 1 1) [(3, 5)] := by
    refine ⟨_, 1, rfl, by simp, by decide, fun k x hx => ?_⟩
    have hk : k < 1 := by have := (List.getElem?_eq_some_iff.1 hx).1; simpa using this
    obtain rfl : k = 0 := by omega
    simp at hx; subst hx
    exact ⟨i64s (by simp) (by simp), i64s (by simp) (by simp), _, 0, rfl, cell_in h3 rfl, cell_in h3 rfl⟩
  have hn : ∀ u : World, PrV u (.slice none 0 0) [] := fun u => ⟨none, 0, rfl, by simp, by decide, fun k x hx => by simp at hx⟩
  refine ⟨⟨none, 0, some ⟨s, 0, none⟩, 3, some ⟨s2, 0, none⟩, 1, some ⟨s4, 0, none⟩, 1, rfl, ?_⟩⟩
  refine ⟨⟨none, 0, rfl, by decide, by decide, fun k x h => by simp [kU] at h⟩, ⟨_, 3, rfl, by decide, by decide, fun k x hx => ?_⟩, ⟨_, 1, rfl, by decide, by decide, fun k x hx => ?_⟩, ⟨_, 1, rfl, by decide, by decide, fun k x hx => ?_⟩⟩
  · have hk : k < 3 := by have := (List.getElem?_eq_some_iff.1 hx).1; simpa [kU] using this
    rcases (show k = 0 ∨ k = 1 ∨ k = 2 by omega) with rfl | rfl | rfl <;> (simp [kU] at hx; subst hx; exact ⟨i64s (by simp) (by simp), i64s (by simp) (by simp), _, 0, _, rfl, cell_in h0 rfl, cell_in h0 rfl, cell_in h0 rfl, cell_in h0 rfl, hn _⟩)
  · have hk : k < 1 := by have := (List.getElem?_eq_some_iff.1 hx).1; simpa [kU] using this
    obtain rfl : k = 0 := by omega
    simp [kU] at hx; subst hx
    exact ⟨i64s (by simp) (by simp), i64s (by simp) (by simp), _, 0, _, _, rfl, cell_in h2 rfl, cell_in h2 rfl, cell_in h2 rfl, cell_in h2 rfl, hn _, hb⟩
  · have hk : k < 1 := by have := (List.getElem?_eq_some_iff.1 hx).1; simpa [kU] using this
    obtain rfl : k = 0 := by omega
    simp [kU] at hx; subst hx
    exact ⟨i64s (by simp) (by simp), _, 0, _, rfl, cell_in h4 rfl, cell_in h4 rfl, hf⟩
/-- the first program, its field -/
structure KnA (w0 wr : World) (s s2 s3 s4 q : Nat) : Prop where
  b : UnB wr q (.agg #[.slice none 0 0, .slice (some ⟨s, 0, none⟩) 3 3, .slice (some ⟨s2, 0, none⟩) 1 1, .slice (some ⟨s4, 0, none⟩) 1 1, .int .i64 0]) kU none (some ⟨s, 0, none⟩) (some ⟨s2, 0, none⟩) (some ⟨s4, 0, none⟩) 0 3 1 1
  f0 : wr.cell? ⟨s4, 1, none⟩ = some (.slice (some ⟨s3, 0, none⟩) 1 1)
  f1 : wr.cell? ⟨s3, 1, none⟩ = some (.int .i64 5)
  bel : Below w0.heap.size w0 wr
theorem KnA.up {w0 w w1 : World} {s s2 s3 s4 q : Nat} (h : KnA w0 w s s2 s3 s4 q) (b : Below w.heap.size w w1) : KnA w0 w1 s s2 s3 s4 q := ⟨h.b.up b, cell_up b h.f0, cell_up b h.f1, h.bel.trans (b.mono h.bel.size)⟩
theorem KnA.box {w0 w : World} {s s2 s3 s4 q : Nat} (h : KnA w0 w s s2 s3 s4 q) : w.cell? ⟨q, 0, none⟩ = some (.slice none 0 0) ∧ w.cell? ⟨q, 1, none⟩ = some (.slice (some ⟨s, 0, none⟩) 3 3) ∧ w.cell? ⟨q, 2, none⟩ = some (.slice (some ⟨s2, 0, none⟩) 1 1) ∧ w.cell? ⟨q, 3, none⟩ = some (.slice (some ⟨s4, 0, none⟩) 1 1) ∧ w.cell? ⟨q, 4, none⟩ = some (.int .i64 0) := ⟨h.b.c0, h.b.c1, h.b.c2, h.b.c3, h.b.c4⟩
/-- .. and the copy that was turned, in a box of its own -/
structure KnB (w0 wr : World) (s s2 s3 s4 q Q : Nat) (na ka ma oa : Option Addr) (nc kc mc oc : Nat) (V : UnitA) : Prop where
  a : KnA w0 wr s s2 s3 s4 q
  v : UnK wr (.agg #[.slice na 0 nc, .slice ka 3 kc, .slice ma 1 mc, .slice oa 1 oc, .int .i64 0]) V
  y0 : wr.cell? ⟨Q, 0, none⟩ = some (.slice na 0 nc)
  y1 : wr.cell? ⟨Q, 1, none⟩ = some (.slice ka 3 kc)
  y2 : wr.cell? ⟨Q, 2, none⟩ = some (.slice ma 1 mc)
  y3 : wr.cell? ⟨Q, 3, none⟩ = some (.slice oa 1 oc)
  y4 : wr.cell? ⟨Q, 4, none⟩ = some (.int .i64 0)
theorem KnB.up {w0 w w1 : World} {s s2 s3 s4 q Q : Nat} {na ka ma oa : Option Addr} {nc kc mc oc : Nat} {V : UnitA} (h : KnB w0 w s s2 s3 s4 q Q na ka ma oa nc kc mc oc V) (b : Below w.heap.size w w1) : KnB w0 w1 s s2 s3 s4 q Q na ka ma oa nc kc mc oc V :=
  ⟨h.a.up b, h.v.up b, cell_up b h.y0, cell_up b h.y1, cell_up b h.y2, cell_up b h.y3, cell_up b h.y4⟩
theorem alloc6 (w : World) (o0 o1 o2 o3 o4 o5 : Obj) : ((((((w.alloc o0).alloc o1).alloc o2).alloc o3).alloc o4).alloc o5).heap[w.heap.size]? = some o0 ∧ ((((((w.alloc o0).alloc o1).alloc o2).alloc o3).alloc o4).alloc o5).heap[w.heap.size + 1]? = some o1 ∧ ((((((w.alloc o0).alloc o1).alloc o2).alloc o3).alloc o4).alloc o5).heap[w.heap.size + 1 + 1]? = some o2 ∧ ((((((w.alloc o0).alloc o1).alloc o2).alloc o3).alloc o4).alloc o5).heap[w.heap.size + 1 + 1 + 1]? = some o3 ∧ ((((((w.alloc o0).alloc o1).alloc o2).alloc o3).alloc o4).alloc o5).heap[w.heap.size + 1 + 1 + 1 + 1]? = some o4 ∧ ((((((w.alloc o0).alloc o1).alloc o2).alloc o3).alloc o4).alloc o5).heap[w.heap.size + 1 + 1 + 1 + 1 + 1]? = some o5 ∧ Below w.heap.size w ((((((w.alloc o0).alloc o1).alloc o2).alloc o3).alloc o4).alloc o5) := by
  have z1 : (w.alloc o0).heap.size = w.heap.size + 1 := World.size_alloc _ _
  have z2 : ((w.alloc o0).alloc o1).heap.size = w.heap.size + 1 + 1 := by rw [World.size_alloc, z1]
  have z3 : (((w.alloc o0).alloc o1).alloc o2).heap.size = w.heap.size + 1 + 1 + 1 := by rw [World.size_alloc, z2]
  have z4 : ((((w.alloc o0).alloc o1).alloc o2).alloc o3).heap.size = w.heap.size + 1 + 1 + 1 + 1 := by rw [World.size_alloc, z3]
  have z5 : (((((w.alloc o0).alloc o1).alloc o2).alloc o3).alloc o4).heap.size = w.heap.size + 1 + 1 + 1 + 1 + 1 := by rw [World.size_alloc, z4]
  refine ⟨?_, ?_, ?_, ?_, ?_, ?_, ?_⟩
  · rw [Below.heap_alloc _ _ _ (by omega), Below.heap_alloc _ _ _ (by omega), Below.heap_alloc _ _ _ (by omega), Below.heap_alloc _ _ _ (by omega), Below.heap_alloc _ _ _ (by omega)]
    exact heap_alloc_new _ _
  · rw [Below.heap_alloc _ _ _ (by omega), Below.heap_alloc _ _ _ (by omega), Below.heap_alloc _ _ _ (by omega), Below.heap_alloc _ _ _ (by omega), ← z1]
    exact heap_alloc_new _ _
  · rw [Below.heap_alloc _ _ _ (by omega), Below.heap_alloc _ _ _ (by omega), Below.heap_alloc _ _ _ (by omega), ← z2]
    exact heap_alloc_new _ _
  · rw [Below.heap_alloc _ _ _ (by omega), Below.heap_alloc _ _ _ (by omega), ← z3]
    exact heap_alloc_new _ _
  · rw [Below.heap_alloc _ _ _ (by omega), ← z4]
    exact heap_alloc_new _ _
  · rw [← z5]
    exact heap_alloc_new _ _
  · exact (((((Below.refl _ _).alloc (Nat.le_refl _) _).alloc (by omega) _).alloc (by omega) _).alloc (by omega) _).alloc (by omega) _ |>.alloc (by omega) _
set_option maxHeartbeats 32000000 in
theorem uknown_c (K : UnitK) (w : World) : Calls Tryz.prog 10 #[] w fun e w' => e = .returned (.bool true) ∧ Below w.heap.size w w' := by
  obtain ⟨e0, e1, e2, e3, e4, e5, hb⟩ := alloc6 w (.cells #[.string ⟨#[66]⟩, .int .i64 (-1), .int .i64 4, .slice none 0 0, .string ⟨#[65]⟩, .int .i64 (-1), .int .i64 0, .slice none 0 0, .string ⟨#[67]⟩, .int .i64 (-1), .int .i64 1, .slice none 0 0] 45) (.cells #[.int .u8 3, .int .u8 0, .int .u8 14, .int .u8 0] 5) (.cells #[.int .i64 0, .int .i64 0, .slice none 0 0, .slice (some ⟨w.heap.size + 1, 0, none⟩) 4 4] 50) (.cells #[.int .i64 3, .int .i64 5] 57) (.cells #[.int .i64 2, .slice (some ⟨w.heap.size + 1 + 1 + 1, 0, none⟩) 1 1] 55) (.cells #[.slice none 0 0, .slice (some ⟨w.heap.size, 0, none⟩) 3 3, .slice (some ⟨w.heap.size + 1 + 1, 0, none⟩) 1 1, .slice (some ⟨w.heap.size + 1 + 1 + 1 + 1, 0, none⟩) 1 1, .int .i64 0] 27)
  have hA : KnA w ((((((w.alloc (.cells #[.string ⟨#[66]⟩, .int .i64 (-1), .int .i64 4, .slice none 0 0, .string ⟨#[65]⟩, .int .i64 (-1), .int .i64 0, .slice none 0 0, .string ⟨#[67]⟩, .int .i64 (-1), .int .i64 1, .slice none 0 0] 45)).alloc (.cells #[.int .u8 3, .int .u8 0, .int .u8 14, .int .u8 0] 5)).alloc (.cells #[.int .i64 0, .int .i64 0, .slice none 0 0, .slice (some ⟨w.heap.size + 1, 0, none⟩) 4 4] 50)).alloc (.cells #[.int .i64 3, .int .i64 5] 57)).alloc (.cells #[.int .i64 2, .slice (some ⟨w.heap.size + 1 + 1 + 1, 0, none⟩) 1 1] 55)).alloc (.cells #[.slice none 0 0, .slice (some ⟨w.heap.size, 0, none⟩) 3 3, .slice (some ⟨w.heap.size + 1 + 1, 0, none⟩) 1 1, .slice (some ⟨w.heap.size + 1 + 1 + 1 + 1, 0, none⟩) 1 1, .int .i64 0] 27)) (w.heap.size) (w.heap.size + 1 + 1) (w.heap.size + 1 + 1 + 1) (w.heap.size + 1 + 1 + 1 + 1) (w.heap.size + 1 + 1 + 1 + 1 + 1) := ⟨⟨rfl, cell_in e5 rfl, cell_in e5 rfl, cell_in e5 rfl, cell_in e5 rfl, cell_in e5 rfl, kU_born e0 e1 e2 e3 e4⟩, cell_in e4 rfl, cell_in e3 rfl, hb⟩
  replace hA := Lib.hid hA
  clear e0 e1 e2 e3 e4 e5 hb
  go_enter Tryz.func10, Tryz.ntmps10
  go_upto_region 2 with fail
  generalize ((((((w.alloc (.cells #[.string ⟨#[66]⟩, .int .i64 (-1), .int .i64 4, .slice none 0 0, .string ⟨#[65]⟩, .int .i64 (-1), .int .i64 0, .slice none 0 0, .string ⟨#[67]⟩, .int .i64 (-1), .int .i64 1, .slice none 0 0] 45)).alloc (.cells #[.int .u8 3, .int .u8 0, .int .u8 14, .int .u8 0] 5)).alloc (.cells #[.int .i64 0, .int .i64 0, .slice none 0 0, .slice (some ⟨w.heap.size + 1, 0, none⟩) 4 4] 50)).alloc (.cells #[.int .i64 3, .int .i64 5] 57)).alloc (.cells #[.int .i64 2, .slice (some ⟨w.heap.size + 1 + 1 + 1, 0, none⟩) 1 1] 55)).alloc (.cells #[.slice none 0 0, .slice (some ⟨w.heap.size, 0, none⟩) 3 3, .slice (some ⟨w.heap.size + 1 + 1, 0, none⟩) 1 1, .slice (some ⟨w.heap.size + 1 + 1 + 1 + 1, 0, none⟩) 1 1, .int .i64 0] 27)) = W at *
  generalize w.heap.size + 1 + 1 + 1 + 1 + 1 = q at *
  generalize w.heap.size + 1 + 1 + 1 + 1 = s4 at *
  generalize w.heap.size + 1 + 1 + 1 = s3 at *
  generalize w.heap.size + 1 + 1 = s2 at *
  generalize w.heap.size + 1 = s1 at *
  obtain ⟨a0, a1, a2, a3, a4⟩ := hA.out.box
  have PC := K.copy hA.out.b.un kU_sz
  rw [show kU.main = 0 from rfl] at PC
  replace PC := Lib.hid PC
  go_wp2_with fail
  with_reducible refine PC.out.mono ?_
  rintro e w1 ⟨nv, cv, mv, ov, rfl, hcp, hb⟩
  clear a0 a1 a2 a3 a4 PC
  obtain ⟨na, nc, e0, _⟩ := hcp.un.n.ex
  obtain ⟨ka, kc, e1, _⟩ := hcp.un.c.ex
  obtain ⟨ma, mc, e2, _⟩ := hcp.un.m.ex
  obtain ⟨oa, oc, e3, _, _, hox⟩ := hcp.un.o.ex
  replace e0 : nv = .slice na 0 nc := e0
  replace e1 : cv = .slice ka 3 kc := e1
  replace e2 : mv = .slice ma 1 mc := e2
  replace e3 : ov = .slice oa 1 oc := e3
  subst e0 e1 e2 e3
  obtain ⟨_, go, oo, fv, e4, c0, c1, hfv⟩ := hox 0 ⟨2, [(3, 5)]⟩ rfl
  subst e4
  obtain ⟨fa, fc, e5, _, _, hfx⟩ := hfv.ex
  replace e5 : fv = .slice fa 1 fc := e5
  subst e5
  obtain ⟨_, _, gf, of, e6, d0, d1⟩ := hfx 0 (3, 5) rfl
  subst e6
  rw [Nat.zero_mul, Nat.add_zero] at c0 c1 d0 d1
  obtain ⟨hge, hfz⟩ := hcp.bf go oo 1 oc 0 _ rfl (by decide) (by rw [Nat.zero_mul, Nat.add_zero]; exact c1) gf of 1 fc rfl (by decide)
  have d1z := hfz (of + 1)
  have hun := hcp.un
  clear hcp hfz hfx hox hfv
  have hbx := (Below.refl w1.heap.size w1).alloc (Nat.le_refl _) (.cells #[.slice na 0 nc, .slice ka 3 kc, .slice ma 1 mc, .slice (some ⟨go, oo, none⟩) 1 oc, .int .i64 0] 27)
  have hW2 := hb.trans (hbx.mono hb.size)
  have hun1 := hun.up hbx
  have c1' := cell_up hbx c1
  have d1' := cell_up hbx d1
  have d1z' : (w1.alloc (.cells #[.slice na 0 nc, .slice ka 3 kc, .slice ma 1 mc, .slice (some ⟨go, oo, none⟩) 1 oc, .int .i64 0] 27)).frozen? ⟨gf, of + 1, none⟩ = false := (World.frozen?_of_block (a := ⟨gf, of + 1, none⟩) (Below.heap_alloc _ _ _ (World.block_lt_of_cell? _ _ d1))).trans d1z
  obtain ⟨Q, hQ⟩ : ∃ Q, Q = w1.heap.size := ⟨_, rfl⟩
  have y0 : (w1.alloc (.cells #[.slice na 0 nc, .slice ka 3 kc, .slice ma 1 mc, .slice (some ⟨go, oo, none⟩) 1 oc, .int .i64 0] 27)).cell? ⟨Q, 0, none⟩ = some (.slice na 0 nc) := by rw [hQ]; simp
  have y1 : (w1.alloc (.cells #[.slice na 0 nc, .slice ka 3 kc, .slice ma 1 mc, .slice (some ⟨go, oo, none⟩) 1 oc, .int .i64 0] 27)).cell? ⟨Q, 1, none⟩ = some (.slice ka 3 kc) := by rw [hQ]; simp
  have y2 : (w1.alloc (.cells #[.slice na 0 nc, .slice ka 3 kc, .slice ma 1 mc, .slice (some ⟨go, oo, none⟩) 1 oc, .int .i64 0] 27)).cell? ⟨Q, 2, none⟩ = some (.slice ma 1 mc) := by rw [hQ]; simp
  have y3 : (w1.alloc (.cells #[.slice na 0 nc, .slice ka 3 kc, .slice ma 1 mc, .slice (some ⟨go, oo, none⟩) 1 oc, .int .i64 0] 27)).cell? ⟨Q, 3, none⟩ = some (.slice (some ⟨go, oo, none⟩) 1 oc) := by rw [hQ]; simp
  have y4 : (w1.alloc (.cells #[.slice na 0 nc, .slice ka 3 kc, .slice ma 1 mc, .slice (some ⟨go, oo, none⟩) 1 oc, .int .i64 0] 27)).cell? ⟨Q, 4, none⟩ = some (.int .i64 0) := by rw [hQ]; simp
  have hge2 := hge
  go_upto_region 3 with fail
  generalize w1.alloc (.cells #[.slice na 0 nc, .slice ka 3 kc, .slice ma 1 mc, .slice (some ⟨go, oo, none⟩) 1 oc, .int .i64 0] 27) = W2 at *
  rw [← hQ]
  clear hQ c0 c1 d0 d1 d1z hun hb hbx
  have hsk := SK.set (x := .int .i64 6) d1' (Or.inr (Or.inl ⟨5, 6, rfl, rfl, i64s (by omega) (by omega)⟩))
  have hlow := hW2.setCell (p := ⟨gf, of + 1, none⟩) hge (.int .i64 6)
  have h6 : (W2.setCell ⟨gf, of + 1, none⟩ (.int .i64 6)).cell? ⟨gf, of + 1, none⟩ = some (.int .i64 6) := World.cell?_setCell_same _ _ _ d1'
  obtain ⟨V, hV, hVm, _, _, _, hVo⟩ := hun1.sk hsk
  have hne : ¬ V.objects = kU.objects := by
    intro e
    obtain ⟨_, _, e9, _, _, hx⟩ := hV.o.ex
    injection e9 with e9 _ _
    obtain ⟨_, g, off, fv, e1, _, p1, hp⟩ := hx 0 ⟨2, [(3, 5)]⟩ (by rw [e]; rfl)
    rw [← e9] at e1
    cases e1
    rw [Nat.zero_mul, Nat.add_zero] at p1
    have q1 := hsk.sl c1'
    rw [q1] at p1
    cases p1
    obtain ⟨_, _, e3, _, _, hy⟩ := hp.ex
    obtain ⟨_, _, g2, off2, e2, _, p2⟩ := hy 0 (3, 5) rfl
    injection e3 with e3 _ _
    rw [← e3] at e2
    cases e2
    rw [Nat.zero_mul, Nat.add_zero, h6] at p2
    cases p2
  have hVk := hV.unk
  rw [show V.main = 0 from hVm] at hVk
  have hsame := sameU_obj (U := kU) (V := V) (fun e => hne e.symm)
  have hB : Hid (KnB w (W2.setCell ⟨gf, of + 1, none⟩ (.int .i64 6)) w.heap.size s2 s3 s4 q Q na ka ma (some ⟨go, oo, none⟩) nc kc mc oc V) := Lib.hid ⟨hA.out.up hlow, hVk, (hsk.sl y0), (hsk.sl y1), (hsk.sl y2), (hsk.sl y3), (World.cell?_setCell_other _ _ _ _ (fun e => by rw [← e, d1'] at y4; cases y4)).trans y4⟩
  replace hsame := Lib.hid hsame
  clear hA hV hVm hVo hne hVk hW2 hun1 hsk hlow hge hge2 h6
  go_upto_region 6 with fail
  clear y0 y1 y2 y3 y4 c1' d1' d1z'
  generalize W2.setCell ⟨gf, of + 1, none⟩ (.int .i64 6) = W3 at *
  clear W2
  generalize some (⟨go, oo, none⟩ : Addr) = oa at *
  have PR := Lib.hid (fun (w' : World) (h : UnK w' (.agg #[.slice none 0 0, .slice (some ⟨w.heap.size, 0, none⟩) 3 3, .slice (some ⟨s2, 0, none⟩) 1 1, .slice (some ⟨s4, 0, none⟩) 1 1, .int .i64 0]) kU) => by have := K.right h; rw [kU_right] at this; exact this)
  have PZ := Lib.hid (fun (w' : World) => by have := K.right (zU_k w'); rw [zU_right] at this; exact this)
  have PF := Lib.hid (fun (w' : World) (h : UnK w' (.agg #[.slice none 0 0, .slice (some ⟨w.heap.size, 0, none⟩) 3 3, .slice (some ⟨s2, 0, none⟩) 1 1, .slice (some ⟨s4, 0, none⟩) 1 1, .int .i64 0]) kU) => by have := K.find h 9 0 (i64s (by omega) (by omega)) (i64s (by omega) (by omega)); rw [kU_f9] at this; exact this)
  have PF2 := Lib.hid (fun (w' : World) (h : UnK w' (.agg #[.slice none 0 0, .slice (some ⟨w.heap.size, 0, none⟩) 3 3, .slice (some ⟨s2, 0, none⟩) 1 1, .slice (some ⟨s4, 0, none⟩) 1 1, .int .i64 0]) kU) => by have := K.find h 2 0 (i64s (by omega) (by omega)) (i64s (by omega) (by omega)); rw [kU_f2] at this; exact this)
  have PW := Lib.hid (fun (w' : World) (h : UnK w' (.agg #[.slice none 0 0, .slice (some ⟨w.heap.size, 0, none⟩) 3 3, .slice (some ⟨s2, 0, none⟩) 1 1, .slice (some ⟨s4, 0, none⟩) 1 1, .int .i64 0]) kU) => by have := K.words h (by decide); rw [kU_w] at this; exact this)
  have PC := Lib.hid (fun (w' : World) (h : UnK w' (.agg #[.slice none 0 0, .slice (some ⟨w.heap.size, 0, none⟩) 3 3, .slice (some ⟨s2, 0, none⟩) 1 1, .slice (some ⟨s4, 0, none⟩) 1 1, .int .i64 0]) kU) => K.copy h kU_sz)
  have PS := Lib.hid (fun (w' : World) (v : Value) (h : UnK w' (.agg #[.slice none 0 0, .slice (some ⟨w.heap.size, 0, none⟩) 3 3, .slice (some ⟨s2, 0, none⟩) 1 1, .slice (some ⟨s4, 0, none⟩) 1 1, .int .i64 0]) kU) (h2 : UnK w' v kU) => by have := K.same h h2; rw [sameU_self] at this; exact this)
  have PS2 := Lib.hid (fun (w' : World) (h : UnK w' (.agg #[.slice none 0 0, .slice (some ⟨w.heap.size, 0, none⟩) 3 3, .slice (some ⟨s2, 0, none⟩) 1 1, .slice (some ⟨s4, 0, none⟩) 1 1, .int .i64 0]) kU) (h2 : UnK w' (.agg #[.slice na 0 nc, .slice ka 3 kc, .slice ma 1 mc, .slice oa 1 oc, .int .i64 0]) V) => by have := K.same h h2; rw [hsame.out] at this; exact this)
  obtain ⟨dU, hdU, hrU⟩ := rowU
  replace hdU := Lib.hid hdU
  replace hrU := Lib.hid hrU
  replace hB := Lib.hid (hB.out.up ((Below.refl _ _).drew))
  refine wp_region_held_drew (S := (fun wr' => KnB w wr' w.heap.size s2 s3 s4 q Q na ka ma oa nc kc mc oc V)) (by kernel_rfl) ?_ (fun hHeld => ?_)
  · (try dsimp only); exact hB.out
  try simp only [Act.put, nA]
  refine tr (i := 0) (oi := ⟨some 37, .load 27 (.tmp 1), 27, "law.go:81", #[], none⟩) (v := (.agg #[.slice none 0 0, .slice (some ⟨w.heap.size, 0, none⟩) 3 3, .slice (some ⟨s2, 0, none⟩) 1 1, .slice (some ⟨s4, 0, none⟩) 1 1, .int .i64 0])) (yieldsIf_load_mid (by rfl) _ _ rfl q 0 rfl [.slice none 0 0, .slice (some ⟨w.heap.size, 0, none⟩) 3 3, .slice (some ⟨s2, 0, none⟩) 1 1, .slice (some ⟨s4, 0, none⟩) 1 1, .int .i64 0] dU (fun w hw => range5 hw.a.box.1 hw.a.box.2.1 hw.a.box.2.2.1 hw.a.box.2.2.2.1 hw.a.box.2.2.2.2) hdU.out hrU.out infoU) ?_
  try simp only [Act.put, nA]
  refine wpAnyH_ready (rs := [1]) (by kernel_rfl) (by simp) ?_
  refine AllReadyH.cons (o := ⟨some 38, .call { callee := .value (.func 7), args := #[.tmp 37], argTypes := #[27] }, 34, "law.go:81", #[⟨0, .data⟩], none⟩) rfl (fun K9 hK => ?_) ?_
  · go_simp
    with_reducible refine (PR.out _ hB.out.a.b.un).mono ?_
    rintro e y1 ⟨rfl, hb⟩
    replace hB := Lib.hid (hB.out.up hb)
    clear hb
    go_wp2_with fail
    refine hK.out _ _ ?_ ?_
    · (try dsimp only); exact hB.out
    clear hK K9 hHeld; intro hHeld
    try simp only [Act.put, nA]
    refine tk (i := 2) (oi := ⟨some 39, .binOp .eql 34 (.tmp 38) (.const (.int .i64 0)) 34, 4, "law.go:81", #[⟨1, .data⟩], none⟩) ?_
    try simp only [Act.put, nA]
    refine tk (i := 3) (oi := ⟨some 40, .move (.tmp 39), 4, "law.go:81", #[⟨2, .data⟩, ⟨1, .chain⟩], none⟩) ?_
    try simp only [Act.put, nA]
    refine tk (i := 4) (oi := ⟨some 41, .build 27 #[], 27, "law.go:81", #[⟨3, .guard⟩], some (3, true)⟩) ?_
    try simp only [Act.put, nA]
    refine wpAnyH_ready (rs := [5]) (by kernel_rfl) (by simp) ?_
    refine AllReadyH.cons (o := ⟨some 42, .call { callee := .value (.func 7), args := #[.tmp 41], argTypes := #[27] }, 34, "law.go:81", #[⟨4, .data⟩, ⟨3, .chain⟩, ⟨3, .guard⟩], some (3, true)⟩) rfl (fun K9 hK => ?_) ?_
    · go_simp
      with_reducible refine (PZ.out _).mono ?_
      rintro e y1 ⟨rfl, hb⟩
      replace hB := Lib.hid (hB.out.up hb)
      clear hb
      go_wp2_with fail
      refine hK.out _ _ ?_ ?_
      · (try dsimp only); exact hB.out
      clear hK K9 hHeld; intro hHeld
      try simp only [Act.put, nA]
      refine tk (i := 6) (oi := ⟨some 43, .binOp .eql 34 (.tmp 42) (.const (.int .i64 3)) 34, 4, "law.go:81", #[⟨5, .data⟩, ⟨3, .guard⟩], some (3, true)⟩) ?_
      try simp only [Act.put, nA]
      refine tk (i := 7) (oi := ⟨some 44, .pick (.tmp 40) (.tmp 43) (.const (.bool false)), 4, "law.go:81", #[⟨3, .data⟩, ⟨6, .data⟩], none⟩) ?_
      try simp only [Act.put, nA]
      refine tk (i := 8) (oi := ⟨some 45, .move (.tmp 44), 4, "law.go:81", #[⟨7, .data⟩, ⟨5, .chain⟩], none⟩) ?_
      try simp only [Act.put, nA]
      refine tr (i := 9) (oi := ⟨some 46, .load 27 (.tmp 1), 27, "law.go:81", #[⟨8, .guard⟩], some (8, true)⟩) (v := (.agg #[.slice none 0 0, .slice (some ⟨w.heap.size, 0, none⟩) 3 3, .slice (some ⟨s2, 0, none⟩) 1 1, .slice (some ⟨s4, 0, none⟩) 1 1, .int .i64 0])) (yieldsIf_load_mid (by rfl) _ _ rfl q 0 rfl [.slice none 0 0, .slice (some ⟨w.heap.size, 0, none⟩) 3 3, .slice (some ⟨s2, 0, none⟩) 1 1, .slice (some ⟨s4, 0, none⟩) 1 1, .int .i64 0] dU (fun w hw => range5 hw.a.box.1 hw.a.box.2.1 hw.a.box.2.2.1 hw.a.box.2.2.2.1 hw.a.box.2.2.2.2) hdU.out hrU.out infoU) ?_
      try simp only [Act.put, nA]
      refine wpAnyH_ready (rs := [10]) (by kernel_rfl) (by simp) ?_
      refine AllReadyH.cons (o := ⟨some 47, .call { callee := .value (.func 25), args := #[.tmp 46, .const (.int .i64 9), .const (.int .i64 0)], argTypes := #[27, 3, 3] }, 3, "law.go:81", #[⟨9, .data⟩, ⟨8, .chain⟩, ⟨8, .guard⟩], some (8, true)⟩) rfl (fun K9 hK => ?_) ?_
      · go_simp
        with_reducible refine (PF.out _ hB.out.a.b.un).mono ?_
        rintro e y1 ⟨rfl, hb⟩
        replace hB := Lib.hid (hB.out.up hb)
        clear hb
        go_wp2_with fail
        refine hK.out _ _ ?_ ?_
        · (try dsimp only); exact hB.out
        clear hK K9 hHeld; intro hHeld
        try simp only [Act.put, nA]
        refine tk (i := 11) (oi := ⟨some 48, .binOp .eql 3 (.tmp 47) (.const (.int .i64 (-1))) 3, 4, "law.go:81", #[⟨10, .data⟩, ⟨8, .guard⟩], some (8, true)⟩) ?_
        try simp only [Act.put, nA]
        refine tk (i := 12) (oi := ⟨some 49, .pick (.tmp 45) (.tmp 48) (.const (.bool false)), 4, "law.go:81", #[⟨8, .data⟩, ⟨11, .data⟩], none⟩) ?_
        try simp only [Act.put, nA]
        refine tk (i := 13) (oi := ⟨some 50, .move (.tmp 49), 4, "law.go:81", #[⟨12, .data⟩, ⟨10, .chain⟩], none⟩) ?_
        try simp only [Act.put, nA]
        refine tr (i := 14) (oi := ⟨some 51, .load 27 (.tmp 1), 27, "law.go:81", #[⟨13, .guard⟩], some (13, true)⟩) (v := (.agg #[.slice none 0 0, .slice (some ⟨w.heap.size, 0, none⟩) 3 3, .slice (some ⟨s2, 0, none⟩) 1 1, .slice (some ⟨s4, 0, none⟩) 1 1, .int .i64 0])) (yieldsIf_load_mid (by rfl) _ _ rfl q 0 rfl [.slice none 0 0, .slice (some ⟨w.heap.size, 0, none⟩) 3 3, .slice (some ⟨s2, 0, none⟩) 1 1, .slice (some ⟨s4, 0, none⟩) 1 1, .int .i64 0] dU (fun w hw => range5 hw.a.box.1 hw.a.box.2.1 hw.a.box.2.2.1 hw.a.box.2.2.2.1 hw.a.box.2.2.2.2) hdU.out hrU.out infoU) ?_
        try simp only [Act.put, nA]
        refine wpAnyH_ready (rs := [15]) (by kernel_rfl) (by simp) ?_
        refine AllReadyH.cons (o := ⟨some 52, .call { callee := .value (.func 25), args := #[.tmp 51, .const (.int .i64 2), .const (.int .i64 0)], argTypes := #[27, 3, 3] }, 3, "law.go:81", #[⟨14, .data⟩, ⟨13, .chain⟩, ⟨13, .guard⟩], some (13, true)⟩) rfl (fun K9 hK => ?_) ?_
        · go_simp
          with_reducible refine (PF2.out _ hB.out.a.b.un).mono ?_
          rintro e y1 ⟨rfl, hb⟩
          replace hB := Lib.hid (hB.out.up hb)
          clear hb
          go_wp2_with fail
          refine hK.out _ _ ?_ ?_
          · (try dsimp only); exact hB.out
          clear hK K9 hHeld; intro hHeld
          try simp only [Act.put, nA]
          refine tk (i := 16) (oi := ⟨some 53, .binOp .eql 3 (.tmp 52) (.const (.int .i64 (-1))) 3, 4, "law.go:81", #[⟨15, .data⟩, ⟨13, .guard⟩], some (13, true)⟩) ?_
          try simp only [Act.put, nA]
          refine tk (i := 17) (oi := ⟨some 54, .pick (.tmp 50) (.tmp 53) (.const (.bool false)), 4, "law.go:81", #[⟨13, .data⟩, ⟨16, .data⟩], none⟩) ?_
          try simp only [Act.put, nA]
          refine tk (i := 18) (oi := ⟨some 55, .move (.tmp 54), 4, "law.go:81", #[⟨17, .data⟩, ⟨15, .chain⟩], none⟩) ?_
          try simp only [Act.put, nA]
          refine tr (i := 19) (oi := ⟨some 56, .load 27 (.tmp 1), 27, "law.go:81", #[⟨18, .guard⟩], some (18, true)⟩) (v := (.agg #[.slice none 0 0, .slice (some ⟨w.heap.size, 0, none⟩) 3 3, .slice (some ⟨s2, 0, none⟩) 1 1, .slice (some ⟨s4, 0, none⟩) 1 1, .int .i64 0])) (yieldsIf_load_mid (by rfl) _ _ rfl q 0 rfl [.slice none 0 0, .slice (some ⟨w.heap.size, 0, none⟩) 3 3, .slice (some ⟨s2, 0, none⟩) 1 1, .slice (some ⟨s4, 0, none⟩) 1 1, .int .i64 0] dU (fun w hw => range5 hw.a.box.1 hw.a.box.2.1 hw.a.box.2.2.1 hw.a.box.2.2.2.1 hw.a.box.2.2.2.2) hdU.out hrU.out infoU) ?_
          try simp only [Act.put, nA]
          refine wpAnyH_ready (rs := [20]) (by kernel_rfl) (by simp) ?_
          refine AllReadyH.cons (o := ⟨some 57, .call { callee := .value (.func 27), args := #[.tmp 56], argTypes := #[27] }, 3, "law.go:81", #[⟨19, .data⟩, ⟨18, .chain⟩, ⟨18, .guard⟩], some (18, true)⟩) rfl (fun K9 hK => ?_) ?_
          · go_simp
            with_reducible refine (PW.out _ hB.out.a.b.un).mono ?_
            rintro e y1 ⟨rfl, hb⟩
            replace hB := Lib.hid (hB.out.up hb)
            clear hb
            go_wp2_with fail
            refine hK.out _ _ ?_ ?_
            · (try dsimp only); exact hB.out
            clear hK K9 hHeld; intro hHeld
            try simp only [Act.put, nA]
            refine tk (i := 21) (oi := ⟨some 58, .binOp .eql 3 (.tmp 57) (.const (.int .i64 4)) 3, 4, "law.go:81", #[⟨20, .data⟩, ⟨18, .guard⟩], some (18, true)⟩) ?_
            try simp only [Act.put, nA]
            refine tk (i := 22) (oi := ⟨some 59, .pick (.tmp 55) (.tmp 58) (.const (.bool false)), 4, "law.go:81", #[⟨18, .data⟩, ⟨21, .data⟩], none⟩) ?_
            try simp only [Act.put, nA]
            refine tk (i := 23) (oi := ⟨some 60, .move (.tmp 59), 4, "law.go:81", #[⟨22, .data⟩, ⟨20, .chain⟩], none⟩) ?_
            try simp only [Act.put, nA]
            refine tr (i := 24) (oi := ⟨some 61, .load 27 (.tmp 1), 27, "law.go:81", #[⟨23, .guard⟩], some (23, true)⟩) (v := (.agg #[.slice none 0 0, .slice (some ⟨w.heap.size, 0, none⟩) 3 3, .slice (some ⟨s2, 0, none⟩) 1 1, .slice (some ⟨s4, 0, none⟩) 1 1, .int .i64 0])) (yieldsIf_load_mid (by rfl) _ _ rfl q 0 rfl [.slice none 0 0, .slice (some ⟨w.heap.size, 0, none⟩) 3 3, .slice (some ⟨s2, 0, none⟩) 1 1, .slice (some ⟨s4, 0, none⟩) 1 1, .int .i64 0] dU (fun w hw => range5 hw.a.box.1 hw.a.box.2.1 hw.a.box.2.2.1 hw.a.box.2.2.2.1 hw.a.box.2.2.2.2) hdU.out hrU.out infoU) ?_
            try simp only [Act.put, nA]
            refine tr (i := 25) (oi := ⟨some 62, .load 27 (.tmp 1), 27, "law.go:81", #[⟨23, .guard⟩], some (23, true)⟩) (v := (.agg #[.slice none 0 0, .slice (some ⟨w.heap.size, 0, none⟩) 3 3, .slice (some ⟨s2, 0, none⟩) 1 1, .slice (some ⟨s4, 0, none⟩) 1 1, .int .i64 0])) (yieldsIf_load_mid (by rfl) _ _ rfl q 0 rfl [.slice none 0 0, .slice (some ⟨w.heap.size, 0, none⟩) 3 3, .slice (some ⟨s2, 0, none⟩) 1 1, .slice (some ⟨s4, 0, none⟩) 1 1, .int .i64 0] dU (fun w hw => range5 hw.a.box.1 hw.a.box.2.1 hw.a.box.2.2.1 hw.a.box.2.2.2.1 hw.a.box.2.2.2.2) hdU.out hrU.out infoU) ?_
            try simp only [Act.put, nA]
            refine wpAnyH_ready (rs := [26]) (by kernel_rfl) (by simp) ?_
            refine AllReadyH.cons (o := ⟨some 63, .call { callee := .value (.func 29), args := #[.tmp 62], argTypes := #[27] }, 27, "law.go:81", #[⟨25, .data⟩, ⟨23, .chain⟩, ⟨23, .guard⟩], some (23, true)⟩) rfl (fun K9 hK => ?_) ?_
            · go_simp
              with_reducible refine (PC.out _ hB.out.a.b.un).mono ?_
              rintro e y1 ⟨nv, cv, mv, ov, rfl, hcp, hb⟩
              replace hB := Lib.hid (hB.out.up hb)
              have hcq := Lib.hid hcp.un.unk
              clear hb hcp
              go_wp2_with fail
              refine hK.out _ _ ?_ ?_
              · (try dsimp only); exact hB.out
              clear hK K9 hHeld; intro hHeld
              try simp only [Act.put, nA]
              refine wpAnyH_ready (rs := [27]) (by kernel_rfl) (by simp) ?_
              refine AllReadyH.cons (o := ⟨some 64, .call { callee := .value (.func 12), args := #[.tmp 61, .tmp 63], argTypes := #[27, 27] }, 4, "law.go:81", #[⟨24, .data⟩, ⟨26, .data⟩, ⟨26, .chain⟩, ⟨23, .guard⟩], some (23, true)⟩) rfl (fun K9 hK => ?_) ?_
              · go_simp
                with_reducible refine (PS.out _ _ hB.out.a.b.un hcq.out).mono ?_
                rintro e y1 ⟨rfl, hb⟩
                replace hB := Lib.hid (hB.out.up hb)
                clear hb
                go_wp2_with fail
                refine hK.out _ _ ?_ ?_
                · (try dsimp only); exact hB.out
                clear hK K9 hHeld; intro hHeld
                try simp only [Act.put, nA]
                refine tk (i := 28) (oi := ⟨some 65, .pick (.tmp 60) (.tmp 64) (.const (.bool false)), 4, "law.go:81", #[⟨23, .data⟩, ⟨27, .data⟩], none⟩) ?_
                try simp only [Act.put, nA]
                refine tk (i := 29) (oi := ⟨some 66, .move (.tmp 65), 4, "law.go:81", #[⟨28, .data⟩, ⟨27, .chain⟩], none⟩) ?_
                try simp only [Act.put, nA]
                refine tr (i := 30) (oi := ⟨some 67, .load 27 (.tmp 1), 27, "law.go:81", #[⟨29, .guard⟩], some (29, true)⟩) (v := (.agg #[.slice none 0 0, .slice (some ⟨w.heap.size, 0, none⟩) 3 3, .slice (some ⟨s2, 0, none⟩) 1 1, .slice (some ⟨s4, 0, none⟩) 1 1, .int .i64 0])) (yieldsIf_load_mid (by rfl) _ _ rfl q 0 rfl [.slice none 0 0, .slice (some ⟨w.heap.size, 0, none⟩) 3 3, .slice (some ⟨s2, 0, none⟩) 1 1, .slice (some ⟨s4, 0, none⟩) 1 1, .int .i64 0] dU (fun w hw => range5 hw.a.box.1 hw.a.box.2.1 hw.a.box.2.2.1 hw.a.box.2.2.2.1 hw.a.box.2.2.2.2) hdU.out hrU.out infoU) ?_
                try simp only [Act.put, nA]
                refine tr (i := 31) (oi := ⟨some 68, .load 27 (.tmp 2), 27, "law.go:81", #[⟨29, .guard⟩], some (29, true)⟩) (v := (.agg #[.slice na 0 nc, .slice ka 3 kc, .slice ma 1 mc, .slice oa 1 oc, .int .i64 0])) (yieldsIf_load_mid (by rfl) _ _ rfl Q 0 rfl [.slice na 0 nc, .slice ka 3 kc, .slice ma 1 mc, .slice oa 1 oc, .int .i64 0] dU (fun w hw => range5 hw.y0 hw.y1 hw.y2 hw.y3 hw.y4) hdU.out hrU.out infoU) ?_
                try simp only [Act.put, nA]
                refine wpAnyH_ready (rs := [32]) (by kernel_rfl) (by simp) ?_
                refine AllReadyH.cons (o := ⟨some 69, .call { callee := .value (.func 12), args := #[.tmp 67, .tmp 68], argTypes := #[27, 27] }, 4, "law.go:81", #[⟨30, .data⟩, ⟨31, .data⟩, ⟨29, .chain⟩, ⟨29, .guard⟩], some (29, true)⟩) rfl (fun K9 hK => ?_) ?_
                · go_simp
                  with_reducible refine (PS2.out _ hB.out.a.b.un hB.out.v).mono ?_
                  rintro e y1 ⟨rfl, hb⟩
                  replace hB := Lib.hid (hB.out.up hb)
                  clear hb
                  go_wp2_with fail
                  refine hK.out _ _ ?_ ?_
                  · (try dsimp only); exact hB.out
                  clear hK K9 hHeld; intro hHeld
                  try simp only [Act.put, nA]
                  refine tk (i := 33) (oi := ⟨some 70, .unOp .not 4 (.tmp 69), 4, "law.go:81", #[⟨32, .data⟩, ⟨29, .guard⟩], some (29, true)⟩) ?_
                  try simp only [Act.put, nA]
                  refine tk (i := 34) (oi := ⟨some 71, .pick (.tmp 66) (.tmp 70) (.const (.bool false)), 4, "law.go:81", #[⟨29, .data⟩, ⟨33, .data⟩], none⟩) ?_
                  try simp only [Act.put, nA]
                  refine tk (i := 35) (oi := ⟨some 72, .move (.tmp 71), 4, "law.go:81", #[⟨34, .data⟩, ⟨32, .chain⟩], none⟩) ?_
                  try simp only [Act.put, nA]
                  refine tk (i := 36) (oi := ⟨some 73, .fieldAddr 27 (.tmp 1) 3, 0, "law.go:81", #[⟨35, .guard⟩], some (35, true)⟩) ?_
                  try simp only [Act.put, nA]
                  refine tr (i := 37) (oi := ⟨some 74, .load 25 (.tmp 73), 25, "law.go:81", #[⟨36, .data⟩, ⟨35, .guard⟩], some (35, true)⟩) (v := .slice (some ⟨s4, 0, none⟩) 1 1) (Or.inl ⟨by rfl, ?_⟩) ?_
                  · intro w hSw; have hc := hSw.a.box.2.2.2.1; go_simp <;> with_reducible rfl
                  try simp only [Act.put, nA]
                  refine tk (i := 38) (oi := ⟨some 75, .indexAddr 25 (.tmp 74) (.const (.int .i64 0)), 0, "law.go:81", #[⟨37, .data⟩, ⟨35, .guard⟩], some (35, true)⟩) ?_
                  try simp only [Act.put, nA]
                  refine tk (i := 39) (oi := ⟨some 76, .fieldAddr 55 (.tmp 75) 1, 0, "law.go:81", #[⟨38, .data⟩, ⟨35, .guard⟩], some (35, true)⟩) ?_
                  try simp only [Act.put, nA]
                  refine tr (i := 40) (oi := ⟨some 77, .load 47 (.tmp 76), 47, "law.go:81", #[⟨39, .data⟩, ⟨35, .guard⟩], some (35, true)⟩) (v := .slice (some ⟨s3, 0, none⟩) 1 1) (Or.inl ⟨by rfl, ?_⟩) ?_
                  · intro w hSw; have hc := hSw.a.f0; go_simp <;> with_reducible rfl
                  try simp only [Act.put, nA]
                  refine tk (i := 41) (oi := ⟨some 78, .indexAddr 47 (.tmp 77) (.const (.int .i64 0)), 0, "law.go:81", #[⟨40, .data⟩, ⟨35, .guard⟩], some (35, true)⟩) ?_
                  try simp only [Act.put, nA]
                  refine tk (i := 42) (oi := ⟨some 79, .fieldAddr 57 (.tmp 78) 1, 0, "law.go:81", #[⟨41, .data⟩, ⟨35, .guard⟩], some (35, true)⟩) ?_
                  try simp only [Act.put, nA]
                  refine tr (i := 43) (oi := ⟨some 80, .load 3 (.tmp 79), 3, "law.go:81", #[⟨42, .data⟩, ⟨35, .guard⟩], some (35, true)⟩) (v := .int .i64 5) (Or.inl ⟨by rfl, ?_⟩) ?_
                  · intro w hSw; have hc := hSw.a.f1; go_simp <;> with_reducible rfl
                  try simp only [Act.put, nA]
                  refine tk (i := 44) (oi := ⟨some 81, .binOp .eql 3 (.tmp 80) (.const (.int .i64 5)) 3, 4, "law.go:81", #[⟨43, .data⟩, ⟨35, .guard⟩], some (35, true)⟩) ?_
                  try simp only [Act.put, nA]
                  refine tk (i := 45) (oi := ⟨some 82, .pick (.tmp 72) (.tmp 81) (.const (.bool false)), 4, "law.go:81", #[⟨35, .data⟩, ⟨44, .data⟩], none⟩) ?_
                  try simp only [Act.put, nA]
                  refine tk (i := 46) (oi := ⟨some 0, .assign (.tmp 82), 4, "law.go:81", #[⟨45, .data⟩, ⟨35, .chain⟩, ⟨0, .phase⟩, ⟨1, .phase⟩, ⟨2, .phase⟩, ⟨3, .phase⟩, ⟨4, .phase⟩, ⟨5, .phase⟩, ⟨6, .phase⟩, ⟨7, .phase⟩, ⟨8, .phase⟩, ⟨9, .phase⟩, ⟨10, .phase⟩, ⟨11, .phase⟩, ⟨12, .phase⟩, ⟨13, .phase⟩, ⟨14, .phase⟩, ⟨15, .phase⟩, ⟨16, .phase⟩, ⟨17, .phase⟩, ⟨18, .phase⟩, ⟨19, .phase⟩, ⟨20, .phase⟩, ⟨21, .phase⟩, ⟨22, .phase⟩, ⟨23, .phase⟩, ⟨24, .phase⟩, ⟨25, .phase⟩, ⟨26, .phase⟩, ⟨27, .phase⟩, ⟨28, .phase⟩, ⟨29, .phase⟩, ⟨30, .phase⟩, ⟨31, .phase⟩, ⟨32, .phase⟩, ⟨33, .phase⟩, ⟨34, .phase⟩, ⟨35, .phase⟩, ⟨36, .phase⟩, ⟨37, .phase⟩, ⟨38, .phase⟩, ⟨39, .phase⟩, ⟨40, .phase⟩, ⟨41, .phase⟩, ⟨42, .phase⟩, ⟨43, .phase⟩, ⟨44, .phase⟩, ⟨45, .phase⟩], none⟩) ?_
                  try simp only [Act.put, List.setIfInBounds_toArray, List.set_cons_zero]
                  refine wpAnyH_done (by kernel_rfl) ?_ _
                  go_wp2_with fail
                  go_ret
                  exact ⟨by simp, hB.out.a.bel⟩
                exact AllReadyH.nil
              exact AllReadyH.nil
            exact AllReadyH.nil
          exact AllReadyH.nil
        exact AllReadyH.nil
      exact AllReadyH.nil
    exact AllReadyH.nil
  exact AllReadyH.nil
end Wd
end Go.Proofs.YtgfdgdbkifkehaaGreat

/- A tape's program in a box. -/
namespace Go.Proofs.YtgfdgdbkifkehaaGreat
open Go.RowKit
set_option linter.unusedVariables false
set_option maxRecDepth 20000
namespace Wd
/-- a tape's program in a box that may be written, with the main m -/
structure TpB (w wr : World) (Q : Nat) (U : UnitA) (na ka ma oa : Option Addr) (nc kc mc oc : Nat) (m : Int) : Prop where
  c0 : wr.cell? ⟨Q, 0, none⟩ = some (.slice na 6 nc)
  c1 : wr.cell? ⟨Q, 1, none⟩ = some (.slice ka U.classes.length kc)
  c2 : wr.cell? ⟨Q, 2, none⟩ = some (.slice ma 9 mc)
  c3 : wr.cell? ⟨Q, 3, none⟩ = some (.slice oa U.objects.length oc)
  c4 : wr.cell? ⟨Q, 4, none⟩ = some (.int .i64 m)
  z : ∀ j, wr.frozen? ⟨Q, j, none⟩ = false
  wu : ∃ wu : World, wu.heap.size = Q ∧ UnV wu (.slice na 6 nc) (.slice ka U.classes.length kc) (.slice ma 9 mc) (.slice oa U.objects.length oc) U ∧ Below Q wu wr
  ta : TapeU U
  bel : Below w.heap.size w wr
  q : w.heap.size ≤ Q
section
variable {w wr w1 : World} {Q : Nat} {U : UnitA} {na ka ma oa : Option Addr} {nc kc mc oc : Nat} {m : Int}
theorem TpB.up (h : TpB w wr Q U na ka ma oa nc kc mc oc m) (b : Below wr.heap.size wr w1) : TpB w w1 Q U na ka ma oa nc kc mc oc m := by
  obtain ⟨wu, e, hU, hb⟩ := h.wu
  have hQ := World.block_lt_of_cell? _ _ h.c0
  exact ⟨cell_up b h.c0, cell_up b h.c1, cell_up b h.c2, cell_up b h.c3, cell_up b h.c4, fun j => (World.frozen?_of_block (a := ⟨Q, j, none⟩) (b.block Q hQ)).trans (h.z j),
    ⟨wu, e, hU, hb.trans (b.mono (by simp only at hQ; omega))⟩, h.ta, h.bel.trans (b.mono h.bel.size), h.q⟩
theorem TpB.un (h : TpB w wr Q U na ka ma oa nc kc mc oc m) : UnV wr (.slice na 6 nc) (.slice ka U.classes.length kc) (.slice ma 9 mc) (.slice oa U.objects.length oc) U := by
  obtain ⟨wu, e, hU, hb⟩ := h.wu
  exact hU.up (by rw [e]; exact hb)
theorem TpB.setm (h : TpB w wr Q U na ka ma oa nc kc mc oc m) (k : Int) : TpB w (wr.setCell ⟨Q, 4, none⟩ (.int .i64 k)) Q U na ka ma oa nc kc mc oc k := by
  obtain ⟨wu, e, hU, hb⟩ := h.wu
  have far : ∀ i, i ≠ 4 → (⟨Q, 4, none⟩ : Addr) ≠ ⟨Q, i, none⟩ := fun i hi he => hi (by cases he; rfl)
  exact ⟨(World.cell?_setCell_other _ _ _ _ (far 0 (by decide))).trans h.c0, (World.cell?_setCell_other _ _ _ _ (far 1 (by decide))).trans h.c1, (World.cell?_setCell_other _ _ _ _ (far 2 (by decide))).trans h.c2, (World.cell?_setCell_other _ _ _ _ (far 3 (by decide))).trans h.c3, World.cell?_setCell_same _ _ _ h.c4, fun j => (World.frozen?_setCell _ _ _ _).trans (h.z j),
    ⟨wu, e, hU, hb.setCell (Nat.le_refl _) _⟩, h.ta, h.bel.setCell h.q _, h.q⟩
theorem TpB.drew (h : TpB w wr Q U na ka ma oa nc kc mc oc m) : TpB w wr.drew Q U na ka ma oa nc kc mc oc m := h.up ((Below.refl _ _).drew)
/-- the program, by value -/
theorem TpB.unk (h : TpB w wr Q U na ka ma oa nc kc mc oc m) : UnK wr (.agg #[.slice na 6 nc, .slice ka U.classes.length kc, .slice ma 9 mc, .slice oa U.objects.length oc, .int .i64 m]) { U with main := m } :=
  UnV.unk (U := { U with main := m }) ⟨h.un.n, h.un.c, h.un.m, h.un.o⟩
theorem TpB.rg (h : TpB w wr Q U na ka ma oa nc kc mc oc m) : wr.rangeAt Q 0 [.slice na 6 nc, .slice ka U.classes.length kc, .slice ma 9 mc, .slice oa U.objects.length oc, .int .i64 m] := range5 h.c0 h.c1 h.c2 h.c3 h.c4
theorem TpB.right (h : TpB w wr Q U na ka ma oa nc kc mc oc m) : unitR { U with main := m } = mainE { U with main := m } := (h.ta.setm m).unit
end
/-- what a tape's Unit answers, laid into a box -/
theorem tpb_born {w wu : World} {nv cv mv ov : Value} {U : UnitA} (hU : UnV wu nv cv mv ov U) (hT : TapeU U) (hb : Below w.heap.size w wu) : ∃ na nc ka kc ma mc oa oc, nv = .slice na 6 nc ∧ cv = .slice ka U.classes.length kc ∧ mv = .slice ma 9 mc ∧ ov = .slice oa U.objects.length oc ∧ TpB w (wu.alloc (.cells #[.slice na 6 nc, .slice ka U.classes.length kc, .slice ma 9 mc, .slice oa U.objects.length oc, .int .i64 6] 27)) wu.heap.size U na ka ma oa nc kc mc oc 6 := by
  obtain ⟨na, nc, ka, kc, ma, mc, oa, oc, e0, e1, e2, e3⟩ := hU.forms
  have l0 : U.names.length = 6 := by rw [hT.names]; rfl
  rw [l0] at e0
  rw [hT.ml] at e2
  subst e0 e1 e2 e3
  exact ⟨na, nc, ka, kc, ma, mc, oa, oc, rfl, rfl, rfl, rfl, by simp, by simp, by simp, by simp, by simp, fun j => World.frozen?_alloc_new _ _ _ _,
    ⟨wu, rfl, hU, (Below.refl _ _).alloc (Nat.le_refl _) _⟩, hT, hb.trans (((Below.refl _ _).alloc (Nat.le_refl _) _).mono hb.size), hb.size⟩
end Wd
end Go.Proofs.YtgfdgdbkifkehaaGreat
