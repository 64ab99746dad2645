/- How names with a colon more, or a sign ahead, are judged. -/
import Derived.Test.YtbefmkkmkjogcaaIKp
namespace Go.Proofs.Ytbefmkkmkjogcaa
open Go.RowKit
set_option linter.unusedVariables false
set_option maxRecDepth 20000
namespace Wd
/-- behind the first byte the place does not matter; what was counted is added -/
theorem from_add : ∀ (R : List UInt8) (i i' s c s' c' : Nat), 0 < i → 0 < i' → argsFrom R i (s + s') (c + c') = (argsFrom R i' s c).map (fun p => (p.1 + s', p.2 + c'))
  | [], _, _, _, _, _, _, _, _ => rfl
  | x :: R, i, i', s, c, s', c', h, h' => by
    unfold argsFrom
    by_cases h1 : inR x.toNat ⟨#[43, 45, 42, 47, 60, 62, 61, 126, 38, 124, 37]⟩ = true
    · rw [if_pos h1, if_pos h1, ← from_add R (i + 1) (i' + 1) (s + 1) c s' c' (by omega) (by omega)]
      congr 1; omega
    · rw [if_neg h1, if_neg h1]
      by_cases h2 : x.toNat = 58
      · rw [if_pos ⟨h2, h⟩, if_pos ⟨h2, h'⟩, ← from_add R (i + 1) (i' + 1) s (c + 1) s' c' (by omega) (by omega)]
        congr 1; omega
      · have n1 : ¬ (x.toNat = 58 ∧ 0 < i) := fun e => h2 e.1
        have n2 : ¬ (x.toNat = 58 ∧ 0 < i') := fun e => h2 e.1
        rw [if_neg n1, if_neg n2]
        by_cases h3 : letterR x.toNat = true ∨ 48 ≤ x.toNat ∧ x.toNat ≤ 57
        · have y1 : letterR x.toNat = true ∨ 0 < i ∧ 48 ≤ x.toNat ∧ x.toNat ≤ 57 := h3.imp id (fun e => ⟨h, e⟩)
          have y2 : letterR x.toNat = true ∨ 0 < i' ∧ 48 ≤ x.toNat ∧ x.toNat ≤ 57 := h3.imp id (fun e => ⟨h', e⟩)
          rw [if_pos y1, if_pos y2]
          exact from_add R (i + 1) (i' + 1) s c s' c' (by omega) (by omega)
        · have y1 : ¬ (letterR x.toNat = true ∨ 0 < i ∧ 48 ≤ x.toNat ∧ x.toNat ≤ 57) := fun e => h3 (e.imp id (fun e => e.2))
          have y2 : ¬ (letterR x.toNat = true ∨ 0 < i' ∧ 48 ≤ x.toNat ∧ x.toNat ≤ 57) := fun e => h3 (e.imp id (fun e => e.2))
          rw [if_neg y1, if_neg y2]
          rfl
theorem from_colon : ∀ (R : List UInt8) (i s c : Nat), 0 < i → argsFrom (R ++ [58]) i s c = (argsFrom R i s c).map (fun p => (p.1, p.2 + 1))
  | [], i, s, c, h => by
    show argsFrom [58] i s c = some (s, c + 1)
    unfold argsFrom
    rw [if_neg (by decide), if_pos ⟨by decide, h⟩]; rfl
  | x :: R, i, s, c, h => by
    show argsFrom (x :: (R ++ [58])) i s c = _
    unfold argsFrom
    split
    · exact from_colon R _ _ _ (by omega)
    · split
      · exact from_colon R _ _ _ (by omega)
      · split
        · exact from_colon R _ _ _ (by omega)
        · rfl
theorem from_bd : ∀ (R : List UInt8) (i s c : Nat) r, argsFrom R i s c = some r → r.1 + r.2 ≤ s + c + R.length
  | [], _, s, c, r, h => by
    have e : r = (s, c) := by simpa [argsFrom] using h.symm
    subst e; simp
  | x :: R, i, s, c, r, h => by
    unfold argsFrom at h
    rw [List.length_cons]
    split at h
    · have := from_bd R _ _ _ r h; omega
    · split at h
      · have := from_bd R _ _ _ r h; omega
      · split at h
        · have := from_bd R _ _ _ r h; omega
        · cases h
def aB (s : ByteArray) : ByteArray := ⟨#[97]⟩ ++ s
def pB (s : ByteArray) : ByteArray := ⟨#[43]⟩ ++ s
theorem app_list (x y : ByteArray) : (x ++ y).data.toList = x.data.toList ++ y.data.toList := by
  rw [ByteArray.data_append]; simp
theorem a_list (s : ByteArray) : (aB s).data.toList = 97 :: s.data.toList := app_list _ _
theorem p_list (s : ByteArray) : (pB s).data.toList = 43 :: s.data.toList := app_list _ _
theorem c_list (s : ByteArray) : (s ++ ⟨#[58]⟩).data.toList = s.data.toList ++ [58] := app_list _ _
theorem size_list (s : ByteArray) : s.size = s.data.toList.length := Array.length_toList.symm
theorem from_a (R : List UInt8) : argsFrom (97 :: R) 0 0 0 = argsFrom R 1 0 0 := by
  rw [argsFrom, if_neg (by decide), if_neg (by decide), if_pos (Or.inl (by decide))]
theorem from_p (R : List UInt8) : argsFrom (43 :: R) 0 0 0 = argsFrom R 1 1 0 := by
  rw [argsFrom, if_pos (by decide)]
/-- a text with a letter ahead that is right: it has no sign; its colons are counted -/
theorem a_right {s : ByteArray} (h : 0 ≤ argsR (aB s)) : ∃ c : Nat, argsFrom s.data.toList 1 0 0 = some (0, c) ∧ argsR (aB s) = (c : Nat) ∧ s.data.toList.length ≤ 15 := by
  unfold argsR at *
  rw [size_list, a_list, from_a, List.length_cons] at *
  split at h
  · rename_i hz
    cases hf : argsFrom s.data.toList 1 0 0 with
    | none => rw [hf] at h; simp at h
    | some r =>
      obtain ⟨x, c⟩ := r
      have hb := from_bd _ _ _ _ _ hf
      simp only at hb
      rw [hf] at h
      simp only at h
      by_cases hx : x = 0
      · subst hx
        refine ⟨c, rfl, ?_, by omega⟩
        rw [if_pos hz]
        simp only
        rw [if_neg (by omega), if_neg (by omega)]
      · rw [if_neg (by omega), if_pos (by omega)] at h
        omega
  · simp at h
theorem a_colon {s : ByteArray} (h : 0 ≤ argsR (aB s)) (hs : s.size ≤ 14) : argsR (aB s ++ ⟨#[58]⟩) = argsR (aB s) + 1 := by
  obtain ⟨c, hf, hc, hl⟩ := a_right h
  rw [hc]
  rw [size_list] at hs
  unfold argsR
  rw [size_list, c_list, a_list]
  rw [show (97 :: s.data.toList ++ [58] : List UInt8) = 97 :: (s.data.toList ++ [58]) from rfl, from_a, from_colon _ _ _ _ (by omega), hf]
  simp only [List.length_cons, List.length_append, List.length_nil, Option.map_some]
  rw [if_pos (by omega), if_neg (by omega), if_neg (by omega)]
  omega
theorem p_not {s : ByteArray} (h : 0 ≤ argsR (aB s)) (h0 : s ≠ ⟨#[]⟩) : argsR (pB s) = -1 := by
  obtain ⟨c, hf, hc, hl⟩ := a_right h
  have hne : 0 < s.data.toList.length := by
    rcases Nat.eq_zero_or_pos s.data.toList.length with e | e
    · exfalso; apply h0
      have : s.data.toList = (⟨#[]⟩ : ByteArray).data.toList := List.length_eq_zero_iff.1 e
      exact ba_list.mp this
    · exact e
  have hp : argsFrom s.data.toList 1 1 0 = some (1, c) := by
    have := from_add s.data.toList 1 1 0 0 1 0 (by omega) (by omega)
    rw [hf] at this
    exact this
  unfold argsR
  rw [size_list, p_list, from_p, hp, List.length_cons]
  split
  · simp only
    rw [if_neg (by omega), if_pos (by omega)]
  · rfl
theorem p_empty : argsR (pB ⟨#[]⟩) = 1 := by kernel_rfl
/-- the signs -/
def sgs : ByteArray := ⟨#[43, 45, 42, 47, 60, 62, 61, 126, 38, 124, 37]⟩
def sg (k : Nat) : ByteArray := sgs.extract k (k + 1)
theorem sg_all : ((List.range 11).all fun k => (List.range 11).all fun j => decide (argsR (sg k) = 1) && decide (argsR (sg k ++ sg j) = 1) && decide (argsR (sg k ++ ⟨#[97]⟩) = -1) && decide (argsR (⟨#[97]⟩ ++ sg j) = -1)) = true := by kernel_rfl
theorem sg_at {k j : Nat} (hk : k < 11) (hj : j < 11) : argsR (sg k) = 1 ∧ argsR (sg k ++ sg j) = 1 ∧ argsR (sg k ++ ⟨#[97]⟩) = -1 ∧ argsR (⟨#[97]⟩ ++ sg j) = -1 := by
  have h := List.all_eq_true.1 (List.all_eq_true.1 sg_all k (List.mem_range.2 hk)) j (List.mem_range.2 hj)
  simp only [Bool.and_eq_true, decide_eq_true_eq] at h
  exact ⟨h.1.1.1, h.1.1.2, h.1.2, h.2⟩
theorem sg_size {k : Nat} (hk : k < 11) : (sg k).size = 1 := by
  have : ((List.range 11).all fun k => decide ((sg k).size = 1)) = true := by kernel_rfl
  have h := List.all_eq_true.1 this k (List.mem_range.2 hk)
  simpa using h
end Wd
end Go.Proofs.Ytbefmkkmkjogcaa
