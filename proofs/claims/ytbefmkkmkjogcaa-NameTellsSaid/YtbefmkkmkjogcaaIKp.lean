/- Names as rows of bytes: what is right has no nought; keys against one another; what a table answers. -/
import Derived.Test.YtbefmkkmkjogcaaITab
namespace Go.Proofs.Ytbefmkkmkjogcaa
open Go.RowKit
set_option linter.unusedVariables false
set_option maxRecDepth 20000
namespace Wd
theorem from_pos : ∀ (R : List UInt8) (i s c : Nat) r, argsFrom R i s c = some r → ∀ x ∈ R, x ≠ 0
  | [], _, _, _, _, _ => by simp
  | x :: R, i, s, c, r, h => by
    unfold argsFrom at h
    have h0 : x ≠ 0 := by
      intro e
      subst e
      rw [if_neg (by decide), if_neg (by simp), if_neg (by simp [letterR])] at h
      cases h
    have hr : ∀ y ∈ R, y ≠ 0 := by
      split at h
      · exact from_pos R _ _ _ r h
      · split at h
        · exact from_pos R _ _ _ r h
        · split at h
          · exact from_pos R _ _ _ r h
          · cases h
    intro y hy
    rcases List.mem_cons.1 hy with rfl | hy
    · exact h0
    · exact hr y hy
theorem right_pos {b : ByteArray} (h : 0 ≤ argsR b) : ∀ x ∈ b.data.toList, x ≠ 0 := by
  unfold argsR at h
  split at h
  · cases hf : argsFrom b.data.toList 0 0 0 with
    | none => rw [hf] at h; simp at h
    | some r => exact from_pos _ _ _ _ r hf
  · simp at h
theorem right_len {b : ByteArray} (h : 0 ≤ argsR b) : b.data.toList.length ≤ 16 := by
  have := args_size h
  have e : b.data.toList.length = b.size := Array.length_toList
  omega
theorem takeWhile_all {α : Type} (p : α → Bool) : ∀ (L : List α), (∀ x ∈ L, p x = true) → L.takeWhile p = L
  | [], _ => rfl
  | a :: L, h => by rw [List.takeWhile_cons, if_pos (h a (by simp)), takeWhile_all p L (fun x hx => h x (by simp [hx]))]
theorem text_right {b : ByteArray} (h : 0 ≤ argsR b) : textK b.data.toList = b := by
  have hl := right_len h
  unfold textK textL
  rw [List.take_of_length_le hl, takeWhile_all _ _ (fun x hx => by simpa using right_pos h x hx)]
theorem kz_inj {A B : List UInt8} (hA : ∀ x ∈ A, x ≠ 0) (hB : ∀ x ∈ B, x ≠ 0) {j : Nat} (h : kz A j = kz B j) : A[j]? = B[j]? := by
  unfold kz at h
  have h' : A[j]?.getD 0 = B[j]?.getD 0 := UInt8.toNat_inj.1 (by omega)
  cases ha : A[j]? with
  | none =>
    cases hb : B[j]? with
    | none => rfl
    | some y =>
      rw [ha, hb] at h'
      exact absurd h'.symm (hB y (List.mem_of_getElem? hb))
  | some x =>
    cases hb : B[j]? with
    | none =>
      rw [ha, hb] at h'
      exact absurd h' (hA x (List.mem_of_getElem? ha))
    | some y => rw [ha, hb] at h'; simpa using h'
theorem key_eqR {A B : List UInt8} (hA : ∀ x ∈ A, x ≠ 0) (hB : ∀ x ∈ B, x ≠ 0) (hAl : A.length ≤ 16) (hBl : B.length ≤ 16) (w : World) :
    (Op.equalIn 10000 33 (.agg (keyA A)) (.agg (keyA B))).run Try.prog w = .ok (decide (A = B)) w := by
  unfold keyA
  rw [key_eq]
  congr 1
  by_cases h : A = B
  · subst h; simp
  · rw [decide_eq_false h, Bool.eq_false_iff]
    intro ht
    simp only [Bool.and_eq_true, beq_iff_eq] at ht
    obtain ⟨e0, e1, e2, e3, e4, e5, e6, e7, e8, e9, e10, e11, e12, e13, e14, e15⟩ := ht
    apply h
    apply List.ext_getElem?
    intro j
    by_cases hj : j < 16
    · refine kz_inj hA hB ?_
      rcases (show j = 0 ∨ j = 1 ∨ j = 2 ∨ j = 3 ∨ j = 4 ∨ j = 5 ∨ j = 6 ∨ j = 7 ∨ j = 8 ∨ j = 9 ∨ j = 10 ∨ j = 11 ∨ j = 12 ∨ j = 13 ∨ j = 14 ∨ j = 15 by omega) with rfl | rfl | rfl | rfl | rfl | rfl | rfl | rfl | rfl | rfl | rfl | rfl | rfl | rfl | rfl | rfl <;> assumption
    · rw [List.getElem?_eq_none (by omega), List.getElem?_eq_none (by omega)]
theorem ba_list {a b : ByteArray} : (a.data.toList = b.data.toList) = (a = b) := by
  apply propext
  constructor
  · intro h
    obtain ⟨⟨x⟩⟩ := a
    obtain ⟨⟨y⟩⟩ := b
    simpa using h
  · rintro rfl; rfl
/-- the names of a table that the call fills -/
structure Full (l : List ByteArray) (i : Nat) : Prop where
  ok : ∀ x ∈ l, 0 ≤ argsR x
  le : l.length ≤ i
theorem Full.start : Full [] 0 := ⟨by simp, by simp⟩
theorem Full.step {l : List ByteArray} {i : Nat} (h : Full l i) (hi : i < 30) (b : ByteArray) : Full (interL l b) (i + 1) := by
  have := h.le
  unfold interL
  cases hp : posR l b with
  | some k => exact ⟨h.ok, by simp only; omega⟩
  | none =>
    simp only
    by_cases hm : mayAdd l b = true
    · rw [if_pos hm]
      refine ⟨fun x hx => ?_, by simp; omega⟩
      rcases List.mem_append.1 hx with hx | hx
      · exact h.ok x hx
      · have e : x = b := by simpa using hx
        unfold mayAdd at hm
        rw [Bool.and_eq_true, decide_eq_true_eq] at hm
        rw [e]; exact hm.1
    · rw [if_neg hm]; exact ⟨h.ok, by omega⟩
theorem inter_right {l : List ByteArray} {i : Nat} (h : Full l i) (hi : i < 30) (b : ByteArray) : decide (interI l b ≥ 0) = decide (0 ≤ argsR b) := by
  have := h.le
  rw [decide_eq_decide]
  unfold interI
  cases hp : posR l b with
  | some k =>
    have := h.ok b (List.mem_of_getElem? (pos_some hp))
    simp only
    omega
  | none =>
    simp only
    unfold mayAdd
    by_cases ha : 0 ≤ argsR b
    · rw [if_pos (by rw [decide_eq_true ha, decide_eq_true (show l.length < 48 by omega)]; rfl)]
      omega
    · rw [if_neg (by rw [decide_eq_false ha]; simp)]
      omega
theorem inter_at {l : List ByteArray} {b : ByteArray} (h : 0 ≤ interI l b) : nameAt (interL l b) (interI l b) = b := by
  unfold interI interL at *
  cases hp : posR l b with
  | some k =>
    simp only [nameAt]
    rw [if_pos (by omega), Int.toNat_natCast, pos_some hp]; rfl
  | none =>
    rw [hp] at h
    simp only at h ⊢
    by_cases hm : mayAdd l b = true
    · rw [if_pos hm, if_pos hm]
      simp only [nameAt]
      rw [if_pos (by omega), Int.toNat_natCast]
      simp
    · rw [if_neg hm] at h; omega
theorem inter_bd {l : List ByteArray} {i : Nat} (h : Full l i) (hi : i < 30) (b : ByteArray) : -1 ≤ interI l b ∧ interI l b ≤ 100 := by
  have := h.le
  unfold interI
  cases hp : posR l b with
  | some k => have := pos_lt hp; simp only; omega
  | none =>
    simp only
    by_cases hm : mayAdd l b = true
    · rw [if_pos hm]; omega
    · rw [if_neg hm]; omega
end Wd
end Go.Proofs.Ytbefmkkmkjogcaa
