/- Programs as they lie in memory: what is read, and no more. -/
import Derived.Test.YthlijmdohejheaaKC
namespace Go.Proofs.Ythlijmdohejheaa
open Go.RowKit
set_option linter.unusedVariables false
set_option maxRecDepth 20000
namespace Wd
def In64 (x : Int) : Prop := -9223372036854775808 ≤ x ∧ x ≤ 9223372036854775807
theorem in64 (x : Int) (h : -9223372036854775808 ≤ x ∧ x ≤ 9223372036854775807) : In64 x := h
/-- a class -/
structure ClassA where
  nm : ByteArray
  super : Int
  fields : Int
  binds : List (Int × Int)
/-- pairs of numbers: binds, values -/
structure PrV (w : World) (v : Value) (L : List (Int × Int)) : Prop where
  mk ::
  ex : ∃ ad cap, v = .slice ad L.length cap ∧ L.length ≤ cap ∧ cap ≤ maxLen ∧ ∀ (k : Nat) x, L[k]? = some x → In64 x.1 ∧ In64 x.2 ∧ ∃ g off, ad = some ⟨g, off, none⟩ ∧ w.cell? ⟨g, off + k * 2, none⟩ = some (.int .i64 x.1) ∧ w.cell? ⟨g, off + k * 2 + 1, none⟩ = some (.int .i64 x.2)
/-- classes -/
structure ClV (w : World) (v : Value) (L : List ClassA) : Prop where
  mk ::
  ex : ∃ ad cap, v = .slice ad L.length cap ∧ L.length ≤ cap ∧ cap ≤ maxLen ∧ ∀ (k : Nat) c, L[k]? = some c → In64 c.super ∧ In64 c.fields ∧ ∃ g off bv, ad = some ⟨g, off, none⟩ ∧ w.cell? ⟨g, off + k * 4, none⟩ = some (.string c.nm) ∧ w.cell? ⟨g, off + k * 4 + 1, none⟩ = some (.int .i64 c.super) ∧ w.cell? ⟨g, off + k * 4 + 2, none⟩ = some (.int .i64 c.fields) ∧ w.cell? ⟨g, off + k * 4 + 3, none⟩ = some bv ∧ PrV w bv c.binds
section
variable {w w1 : World} {v : Value}
theorem PrV.up {L : List (Int × Int)} (h : PrV w v L) (b : Below w.heap.size w w1) : PrV w1 v L := by
  obtain ⟨ad, cap, rfl, h1, h2, h3⟩ := h.ex
  refine ⟨ad, cap, rfl, h1, h2, fun k x hx => ?_⟩
  obtain ⟨i1, i2, g, off, e, c0, c1⟩ := h3 k x hx
  exact ⟨i1, i2, g, off, e, cell_up b c0, cell_up b c1⟩
theorem ClV.up {L : List ClassA} (h : ClV w v L) (b : Below w.heap.size w w1) : ClV w1 v L := by
  obtain ⟨ad, cap, rfl, h1, h2, h3⟩ := h.ex
  refine ⟨ad, cap, rfl, h1, h2, fun k x hx => ?_⟩
  obtain ⟨i1, i2, g, off, bv, e, c0, c1, c2, c3, p⟩ := h3 k x hx
  exact ⟨i1, i2, g, off, bv, e, cell_up b c0, cell_up b c1, cell_up b c2, cell_up b c3, p.up b⟩
theorem PrV.take {ad : Option Addr} {n cap : Nat} {L : List (Int × Int)} (h : PrV w (.slice ad n cap) L) (k : Nat) (hk : k ≤ L.length) : PrV w (.slice ad k cap) (L.take k) := by
  obtain ⟨ad', cap', e, h1, h2, h3⟩ := h.ex
  cases e
  have hl : (L.take k).length = k := by rw [List.length_take]; omega
  refine ⟨ad, cap, by rw [hl], by omega, h2, fun j x hx => h3 j x ?_⟩
  rw [List.getElem?_take] at hx
  split at hx
  · exact hx
  · cases hx
theorem ClV.take {ad : Option Addr} {n cap : Nat} {L : List ClassA} (h : ClV w (.slice ad n cap) L) (k : Nat) (hk : k ≤ L.length) : ClV w (.slice ad k cap) (L.take k) := by
  obtain ⟨ad', cap', e, h1, h2, h3⟩ := h.ex
  cases e
  have hl : (L.take k).length = k := by rw [List.length_take]; omega
  refine ⟨ad, cap, by rw [hl], by omega, h2, fun j x hx => h3 j x ?_⟩
  rw [List.getElem?_take] at hx
  split at hx
  · exact hx
  · cases hx
theorem ClV.form {L : List ClassA} (h : ClV w v L) : ∃ ad cap, v = .slice ad L.length cap ∧ L.length ≤ cap ∧ cap ≤ maxLen := by
  obtain ⟨ad, cap, e, h1, h2, h3⟩ := h.ex
  exact ⟨ad, cap, e, h1, h2⟩
theorem PrV.form {L : List (Int × Int)} (h : PrV w v L) : ∃ ad cap, v = .slice ad L.length cap ∧ L.length ≤ cap ∧ cap ≤ maxLen := by
  obtain ⟨ad, cap, e, h1, h2, h3⟩ := h.ex
  exact ⟨ad, cap, e, h1, h2⟩
theorem ClV.at {ad : Option Addr} {n cap : Nat} {L : List ClassA} (h : ClV w (.slice ad n cap) L) {k : Nat} {c : ClassA} (hk : L[k]? = some c) : In64 c.super ∧ In64 c.fields ∧ ∃ g off bv, ad = some ⟨g, off, none⟩ ∧ w.cell? ⟨g, off + k * 4, none⟩ = some (.string c.nm) ∧ w.cell? ⟨g, off + k * 4 + 1, none⟩ = some (.int .i64 c.super) ∧ w.cell? ⟨g, off + k * 4 + 2, none⟩ = some (.int .i64 c.fields) ∧ w.cell? ⟨g, off + k * 4 + 3, none⟩ = some bv ∧ PrV w bv c.binds := by
  obtain ⟨ad', cap', e, h1, h2, h3⟩ := h.ex
  cases e
  exact h3 k c hk
theorem PrV.at {ad : Option Addr} {n cap : Nat} {L : List (Int × Int)} (h : PrV w (.slice ad n cap) L) {k : Nat} {x : Int × Int} (hk : L[k]? = some x) : In64 x.1 ∧ In64 x.2 ∧ ∃ g off, ad = some ⟨g, off, none⟩ ∧ w.cell? ⟨g, off + k * 2, none⟩ = some (.int .i64 x.1) ∧ w.cell? ⟨g, off + k * 2 + 1, none⟩ = some (.int .i64 x.2) := by
  obtain ⟨ad', cap', e, h1, h2, h3⟩ := h.ex
  cases e
  exact h3 k x hk
end
/-- a class's cells, its binds being bv -/
def cl4 (c : ClassA) (bv : Value) : List Value := [.string c.nm, .int .i64 c.super, .int .i64 c.fields, bv]
/-- rows of classes of the call's own: cells -/
def cl4s : List (ClassA × Value) → List Value
  | [] => []
  | x :: X => cl4 x.1 x.2 ++ cl4s X
def pr2 : List (Int × Int) → List Value
  | [] => []
  | x :: X => .int .i64 x.1 :: .int .i64 x.2 :: pr2 X
theorem pr2_app : ∀ A B, pr2 (A ++ B) = pr2 A ++ pr2 B
  | [], _ => rfl
  | t :: A, B => by simp [pr2, pr2_app A B]
theorem pr2_len : ∀ A, (pr2 A).length = A.length * 2
  | [] => rfl
  | t :: A => by simp only [pr2, List.length_cons, pr2_len A]; omega
theorem pr2_get : ∀ (T : List (Int × Int)) (k : Nat) t, T[k]? = some t → (pr2 T)[k * 2]? = some (.int .i64 t.1) ∧ (pr2 T)[k * 2 + 1]? = some (.int .i64 t.2)
  | [], k, t, h => by simp at h
  | s :: T, 0, t, h => by simp at h; subst h; simp [pr2]
  | s :: T, k + 1, t, h => by
    have := pr2_get T k t (by simpa using h)
    rw [show (k + 1) * 2 = k * 2 + 2 by omega]
    simpa [pr2] using this
theorem pr2_one : ∀ (T : List (Int × Int)), ∀ u ∈ pr2 T, u.oneCell' = true
  | [], u, h => by cases h
  | t :: T, u, h => by
    simp only [pr2, List.mem_cons] at h
    rcases h with rfl | rfl | h
    · rfl
    · rfl
    · exact pr2_one T u h
theorem cl4s_app : ∀ A B, cl4s (A ++ B) = cl4s A ++ cl4s B
  | [], _ => rfl
  | t :: A, B => by simp [cl4s, cl4s_app A B]
theorem cl4s_len : ∀ A, (cl4s A).length = A.length * 4
  | [] => rfl
  | t :: A => by simp only [cl4s, cl4, List.length_append, List.length_cons, List.length_nil, cl4s_len A]; omega
theorem cl4s_get : ∀ (T : List (ClassA × Value)) (k : Nat) t, T[k]? = some t → (cl4s T)[k * 4]? = some (.string t.1.nm) ∧ (cl4s T)[k * 4 + 1]? = some (.int .i64 t.1.super) ∧ (cl4s T)[k * 4 + 2]? = some (.int .i64 t.1.fields) ∧ (cl4s T)[k * 4 + 3]? = some t.2
  | [], k, t, h => by simp at h
  | s :: T, 0, t, h => by simp at h; subst h; simp [cl4s, cl4]
  | s :: T, k + 1, t, h => by
    have := cl4s_get T k t (by simpa using h)
    rw [show (k + 1) * 4 = k * 4 + 4 by omega]
    simpa [cl4s, cl4] using this
theorem sl_one {v : Value} (h : ∃ a m c, v = .slice a m c) : v.oneCell' = true := by obtain ⟨a, m, c, rfl⟩ := h; rfl
theorem cl4s_one : ∀ (T : List (ClassA × Value)), (∀ x ∈ T, ∃ a m c, x.2 = .slice a m c) → ∀ u ∈ cl4s T, u.oneCell' = true
  | [], _, u, h => by cases h
  | t :: T, hT, u, h => by
    simp only [cl4s, cl4, List.mem_append, List.mem_cons, List.not_mem_nil, or_false] at h
    rcases h with (rfl | rfl | rfl | rfl) | h
    · rfl
    · rfl
    · rfl
    · exact sl_one (hT t (by simp))
    · exact cl4s_one T (fun x hx => hT x (by simp [hx])) u h
/-- a row of pairs of the call's own is read as such -/
theorem PrV.own {w : World} {base : Nat} {e : TypeId} {v : Value} {T : List (Int × Int)} (h : w.ownsRow base e 2 v T.length (pr2 T)) (hb : ∀ x ∈ T, In64 x.1 ∧ In64 x.2) : PrV w v T := by
  rcases h.2 with ⟨rfl, h0⟩ | ⟨g, cap, cur, rfl, h1, h2, h3, h4, _⟩
  · have : T = [] := List.length_eq_zero_iff.1 h0
    subst this
    exact ⟨none, 0, rfl, by simp, by decide, fun k x hx => by simp at hx⟩
  · refine ⟨_, cap, rfl, h3, h4, fun k x hx => ?_⟩
    have hk := (List.getElem?_eq_some_iff.1 hx).1
    obtain ⟨c0, c1⟩ := pr2_get T k x hx
    obtain ⟨b0, b1⟩ := hb x (List.mem_of_getElem? hx)
    refine ⟨b0, b1, g, 0, rfl, ?_, ?_⟩
    · rw [Nat.zero_add]; exact (h.cellAt (k * 2) (by omega)).trans c0
    · rw [Nat.zero_add]; exact (h.cellAt (k * 2 + 1) (by omega)).trans c1
/-- a row of classes of the call's own is read as such -/
theorem ClV.own {w : World} {base : Nat} {e : TypeId} {v : Value} {T : List (ClassA × Value)} (h : w.ownsRow base e 4 v T.length (cl4s T)) (hb : ∀ x ∈ T, In64 x.1.super ∧ In64 x.1.fields ∧ PrV w x.2 x.1.binds) : ClV w v (T.map (·.1)) := by
  rcases h.2 with ⟨rfl, h0⟩ | ⟨g, cap, cur, rfl, h1, h2, h3, h4, _⟩
  · have : T = [] := List.length_eq_zero_iff.1 h0
    subst this
    exact ⟨none, 0, rfl, by simp, by decide, fun k x hx => by simp at hx⟩
  · refine ⟨some ⟨g, 0, none⟩, cap, by simp, by simpa using h3, h4, fun k c hc => ?_⟩
    obtain ⟨x, hx, rfl⟩ : ∃ x, T[k]? = some x ∧ x.1 = c := by simpa using hc
    have hk := (List.getElem?_eq_some_iff.1 hx).1
    obtain ⟨c0, c1, c2, c3⟩ := cl4s_get T k x hx
    obtain ⟨b0, b1, b2⟩ := hb x (List.mem_of_getElem? hx)
    refine ⟨b0, b1, g, 0, x.2, rfl, ?_, ?_, ?_, ?_, b2⟩
    · rw [Nat.zero_add]; exact (h.cellAt (k * 4) (by omega)).trans c0
    · rw [Nat.zero_add]; exact (h.cellAt (k * 4 + 1) (by omega)).trans c1
    · rw [Nat.zero_add]; exact (h.cellAt (k * 4 + 2) (by omega)).trans c2
    · rw [Nat.zero_add]; exact (h.cellAt (k * 4 + 3) (by omega)).trans c3
/-- a row of classes, opened: its cells -/
theorem ClV.cells {w : World} {ad : Option Addr} {n cap : Nat} {L : List ClassA} (h : ClV w (.slice ad n cap) L) : ∃ T : List (ClassA × Value), T.map (·.1) = L ∧ (∀ x ∈ T, In64 x.1.super ∧ In64 x.1.fields ∧ PrV w x.2 x.1.binds) ∧ ∀ k u, (cl4s T)[k]? = some u → ∃ g off, ad = some ⟨g, off, none⟩ ∧ w.cell? ⟨g, off + k, none⟩ = some u := by
  have key : ∀ (m : Nat), m ≤ L.length → ∃ T : List (ClassA × Value), T.map (·.1) = L.take m ∧ (∀ x ∈ T, In64 x.1.super ∧ In64 x.1.fields ∧ PrV w x.2 x.1.binds) ∧ ∀ k u, (cl4s T)[k]? = some u → ∃ g off, ad = some ⟨g, off, none⟩ ∧ w.cell? ⟨g, off + k, none⟩ = some u := by
    intro m
    induction m with
    | zero => exact fun _ => ⟨[], by simp, by simp, fun k u hk => by simp [cl4s] at hk⟩
    | succ m ih =>
      intro hm
      obtain ⟨T, e, hT, hc⟩ := ih (by omega)
      obtain ⟨c, hcm⟩ : ∃ c, L[m]? = some c := ⟨L[m]'(by omega), by simp⟩
      obtain ⟨i0, i1, g, off, bv, ea, c0, c1, c2, c3, hp⟩ := h.at hcm
      have hl : T.length = m := by have := congrArg List.length e; simp at this; omega
      refine ⟨T ++ [(c, bv)], by simp [e, List.take_add_one, hcm], fun x hx => ?_, fun k u hk => ?_⟩
      · rcases List.mem_append.1 hx with hx | hx
        · exact hT x hx
        · rw [List.mem_singleton.1 hx]; exact ⟨i0, i1, hp⟩
      · rw [cl4s_app] at hk
        by_cases hlt : k < (cl4s T).length
        · rw [List.getElem?_append_left hlt] at hk
          exact hc k u hk
        · rw [List.getElem?_append_right (by omega)] at hk
          rw [cl4s_len, hl] at hk hlt
          refine ⟨g, off, ea, ?_⟩
          simp only [cl4s, cl4, List.append_nil] at hk
          obtain ⟨d, hd⟩ : ∃ d, k = m * 4 + d := ⟨k - m * 4, by omega⟩
          subst hd
          rw [show m * 4 + d - m * 4 = d by omega] at hk
          match d, hk with
          | 0, hk => simp at hk; subst hk; exact c0
          | 1, hk => simp at hk; subst hk; exact c1
          | 2, hk => simp at hk; subst hk; exact c2
          | 3, hk => simp at hk; subst hk; exact c3
  obtain ⟨T, e, r⟩ := key L.length (Nat.le_refl _)
  exact ⟨T, by rw [e, List.take_length], r⟩
end Wd
end Go.Proofs.Ythlijmdohejheaa
