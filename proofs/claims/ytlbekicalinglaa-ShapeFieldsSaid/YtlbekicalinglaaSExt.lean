/- A tape's classes and one more behind them. -/
import Derived.Test.YtlbekicalinglaaSCut
namespace Go.Proofs.Ytlbekicalinglaa
open Go.RowKit
set_option linter.unusedVariables false
namespace Wd
theorem ext_get {L : List ClassA} {c : ClassA} {k : Nat} (hk : k < L.length) : (L ++ [c])[k]? = L[k]? := List.getElem?_append_left hk
theorem ext_last {L : List ClassA} {c : ClassA} : (L ++ [c])[L.length]? = some c := by simp
theorem ext_cls {L : List ClassA} (h : TapeL L) {c : ClassA} {k : Nat} {d : ClassA} (hd : L[k]? = some d) : classOk (L ++ [c]) k d = true := by
  obtain ⟨a, _⟩ := h.ok k d hd
  have hk := (List.getElem?_eq_some_iff.1 hd).1
  have hk5 := h.le
  have hdp := deep_le (L ++ [c]) (k + 1) d.super
  have key : -1 ≤ d.super ∧ d.super < k ∧ 0 ≤ d.fields ∧ d.fields ≤ 62 ∧ (d.super < 0 ∨ superF (L ++ [c]) d.super ≤ d.fields) := by
    rcases (show k = 0 ∨ k = 1 ∨ 2 ≤ k by omega) with e | e | e
    · obtain ⟨_, s, f⟩ := a.z e
      rw [s, f]; omega
    · obtain ⟨_, s, f⟩ := a.o e
      rw [s, f]; omega
    · obtain ⟨f0, f1⟩ := a.fld e
      rcases a.sup e with e1 | ⟨e1, e2, x, e3, e4⟩
      · omega
      · refine ⟨by omega, e2, f0, by omega, Or.inr ?_⟩
        unfold superF
        rw [ext_get (by omega), e3]; exact e4
  obtain ⟨k1, k2, k3, k4, k5⟩ := key
  rw [classOk_eq k1 k2 k3 k4, decide_eq_true (by omega)]
  rcases k5 with k5 | k5
  · rw [decide_eq_true k5]; rfl
  · rw [decide_eq_true k5]; simp
theorem ext_to {L : List ClassA} (h : TapeL L) (h2 : 2 ≤ L.length) (c : ClassA) : ∀ k, k ≤ L.length → ShR (L ++ [c]) 6 9 k
  | 0, _ => by
    have h5 := h.le
    refine ShR.start (by simp; omega) (by simp; omega) ?_
    obtain ⟨a, ha⟩ : ∃ x, L[0]? = some x := ⟨L[0]'(by omega), by simp⟩
    obtain ⟨b, hb⟩ : ∃ x, L[1]? = some x := ⟨L[1]'(by omega), by simp⟩
    rw [head_at ((ext_get (by omega)).trans ha) ((ext_get (by omega)).trans hb)]
    obtain ⟨_, s0, f0⟩ := (h.ok 0 a ha).1.z rfl
    obtain ⟨_, s1, f1⟩ := (h.ok 1 b hb).1.o rfl
    rw [s0, f0, s1, f1]; rfl
  | k + 1, hk => by
    have h5 := h.le
    obtain ⟨d, hd⟩ : ∃ x, L[k]? = some x := ⟨L[k]'(by omega), by simp⟩
    obtain ⟨a, b⟩ := h.ok k d hd
    refine (ext_to h h2 c k (by omega)).step ((ext_get (by omega)).trans hd) (by rw [nm_at a, nm_text k (by omega)]) (fun x hx => ?_) (ext_cls h hd) (bnd_right b)
    rw [List.take_append_of_le_length (by omega)] at hx
    obtain ⟨j, hj⟩ := List.getElem?_of_mem hx
    have hji : j < k ∧ L[j]? = some x := by
      rw [List.getElem?_take] at hj
      split at hj
      · exact ⟨by assumption, hj⟩
      · cases hj
    rw [nm_at (h.ok j x hji.2).1, nm_at a]
    exact nm_apart k (by omega) j hji.1
def below : ByteArray := ⟨#[66, 101, 108, 111, 119]⟩
theorem below_text : textOk below = true := by decide +kernel
theorem no_binds : bindsOk [] 6 9 = true := by decide +kernel
theorem nm_below : ∀ i, i < 5 → nmOf i ≠ below := by decide +kernel
theorem ext_apart {L : List ClassA} (h : TapeL L) (c : ClassA) : ∀ x ∈ (L ++ [c]).take L.length, x.nm ≠ below := fun x hx => by
  rw [List.take_left] at hx
  obtain ⟨j, hj⟩ := List.getElem?_of_mem hx
  have hj' := (List.getElem?_eq_some_iff.1 hj).1
  rw [nm_at (h.ok j x hj).1]
  exact nm_below j (by have := h.le; omega)
/-- fields in their bounds -/
theorem tape_fields {L : List ClassA} (h : TapeL L) {k : Nat} {c : ClassA} (hc : L[k]? = some c) : 0 ≤ c.fields ∧ c.fields ≤ 8 := by
  obtain ⟨a, _⟩ := h.ok k c hc
  have hk := (List.getElem?_eq_some_iff.1 hc).1
  have hk5 := h.le
  rcases (show k = 0 ∨ k = 1 ∨ 2 ≤ k by omega) with e | e | e
  · obtain ⟨_, s, f⟩ := a.z e
    omega
  · obtain ⟨_, s, f⟩ := a.o e
    omega
  · have := a.fld e; omega
theorem ext_ok {L : List ClassA} (h : TapeL L) (h2 : 2 ≤ L.length) {k : Nat} {d : ClassA} (hd : L[k]? = some d) (f : Int) (hf : d.fields ≤ f) (hf62 : f ≤ 62) : shapeR (L ++ [⟨below, k, f, []⟩]) 6 9 = 0 := by
  have hk := (List.getElem?_eq_some_iff.1 hd).1
  have h5 := h.le
  have hfd := tape_fields h hd
  have hdp := deep_le (L ++ [⟨below, k, f, []⟩]) (L.length + 1) (k : Int)
  have hcl : classOk (L ++ [⟨below, k, f, []⟩]) L.length ⟨below, k, f, []⟩ = true := by
    rw [classOk_eq (by simp only; omega) (by simp only; omega) (by simp only; omega) hf62, decide_eq_true (by simp only; omega)]
    have : superF (L ++ [⟨below, k, f, []⟩]) (k : Int) ≤ f := by
      unfold superF
      rw [Int.toNat_natCast, ext_get hk, hd]; exact hf
    rw [decide_eq_true this]; simp
  have hs := (ext_to h h2 ⟨below, k, f, []⟩ L.length (Nat.le_refl _)).step ext_last below_text (ext_apart h _) hcl no_binds
  have hlen : (L ++ [(⟨below, k, f, []⟩ : ClassA)]).length = L.length + 1 := by simp
  rw [← hlen] at hs
  exact hs.last
theorem ext_few {L : List ClassA} (h : TapeL L) (h2 : 2 ≤ L.length) {k : Nat} {d : ClassA} (hd : L[k]? = some d) : shapeR (L ++ [⟨below, k, d.fields - 1, []⟩]) 6 9 = 14 := by
  have hk := (List.getElem?_eq_some_iff.1 hd).1
  refine (ext_to h h2 ⟨below, k, d.fields - 1, []⟩ L.length (Nat.le_refl _)).cls ext_last below_text (ext_apart h _) ?_
  rw [Bool.eq_false_iff]
  intro hc
  unfold classOk at hc
  simp only [Bool.and_eq_true, Bool.or_eq_true, decide_eq_true_eq] at hc
  have h1 := hc.2
  unfold superF at h1
  rw [Int.toNat_natCast, ext_get hk, hd] at h1
  simp only at h1
  omega
theorem ext_twice {L : List ClassA} (h : TapeL L) (h2 : 2 ≤ L.length) {k : Nat} {d : ClassA} (hd : L[k]? = some d) (s f : Int) (B : List (Int × Int)) : shapeR (L ++ [⟨d.nm, s, f, B⟩]) 6 9 = 13 := by
  have hk := (List.getElem?_eq_some_iff.1 hd).1
  exact (ext_to h h2 ⟨d.nm, s, f, B⟩ L.length (Nat.le_refl _)).twice ext_last hk ((ext_get hk).trans hd) rfl
end Wd
end Go.Proofs.Ytlbekicalinglaa
