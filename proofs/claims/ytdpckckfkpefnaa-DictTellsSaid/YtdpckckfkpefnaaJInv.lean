/- A dict, and what it has been told: which names it has, with which method. -/
import Derived.Test.YtdpckckfkpefnaaJNew
namespace Go.Proofs.Ytdpckckfkpefnaa
open Go.RowKit
set_option linter.unusedVariables false
set_option maxRecDepth 20000
namespace Wd
/-- at which of its places a name is met -/
def keyF (D : Dst) (s : Int) : Nat → Nat → Option Nat
  | 0, _ => none
  | f + 1, k => if selA D (plc s k) = s then some k else if selA D (plc s k) < 0 then none else keyF D s f (k + 1)
def keyD (D : Dst) (s : Int) : Option Nat := keyF D s 4 0
/-- the method of a name that is there -/
def valD (D : Dst) (s : Int) : Option Int := (keyD D s).map (fun k => metA D (plc s k))
/-- each name that lies in a place is met there -/
structure InvD (D : Dst) : Prop where
  len : D.length = 16
  met : ∀ p, p < 16 → 0 ≤ selA D p → ∃ k, keyD D (selA D p) = some k ∧ plc (selA D p) k = p
theorem keyF_some {D : Dst} {s : Int} : ∀ (f k : Nat) {j : Nat}, keyF D s f k = some j → selA D (plc s j) = s ∧ k ≤ j ∧ j < k + f ∧ ∀ i, k ≤ i → i < j → 0 ≤ selA D (plc s i) ∧ selA D (plc s i) ≠ s
  | 0, _, _, h => by simp [keyF] at h
  | f + 1, k, j, h => by
    unfold keyF at h
    split at h
    · rename_i e
      cases h
      exact ⟨e, Nat.le_refl _, by omega, fun i h1 h2 => by omega⟩
    · rename_i e
      split at h
      · cases h
      · rename_i e2
        obtain ⟨a, b, c, d⟩ := keyF_some f (k + 1) h
        refine ⟨a, by omega, by omega, fun i h1 h2 => ?_⟩
        by_cases hi : i = k
        · subst hi; exact ⟨by omega, e⟩
        · exact d i (by omega) h2
/-- a path that is the same leads to the same -/
theorem keyF_path {D' : Dst} {s : Int} : ∀ (f k : Nat) {j : Nat}, k ≤ j → j < k + f → selA D' (plc s j) = s → (∀ i, k ≤ i → i < j → 0 ≤ selA D' (plc s i) ∧ selA D' (plc s i) ≠ s) → keyF D' s f k = some j
  | 0, k, j, h1, h2, _, _ => by omega
  | f + 1, k, j, h1, h2, h3, h4 => by
    unfold keyF
    by_cases e : k = j
    · subst e; rw [if_pos h3]
    · obtain ⟨a, b⟩ := h4 k (Nat.le_refl _) (by omega)
      rw [if_neg b, if_neg (by omega)]
      exact keyF_path f (k + 1) (by omega) (by omega) h3 (fun i h5 h6 => h4 i (by omega) h6)
theorem find_key {D : Dst} {s : Int} : ∀ (f k : Nat), k + f = 4 → findF D s f k = (match keyF D s f k with | some j => (metA D (plc s j), (j : Int) + 1) | none => ((-1 : Int), (findF D s f k).2)) ∧ (k : Int) ≤ (findF D s f k).2 ∧ (findF D s f k).2 ≤ 4 ∧ (0 < f → (k : Int) + 1 ≤ (findF D s f k).2)
  | 0, k, h => by unfold findF keyF; refine ⟨rfl, by simp only; omega, by simp, fun h => by omega⟩
  | f + 1, k, h => by
    obtain ⟨a, b, c, d⟩ := find_key (D := D) (s := s) f (k + 1) (by omega)
    unfold findF keyF
    split
    · refine ⟨rfl, by simp only; omega, by simp only; omega, fun _ => by simp only; omega⟩
    · split
      · refine ⟨rfl, by simp only; omega, by simp only; omega, fun _ => by simp only; omega⟩
      · exact ⟨a, by push_cast at b; omega, c, fun _ => by push_cast at b; omega⟩
theorem find_has {D : Dst} {s : Int} (hs : 0 ≤ s) {v : Int} (h : valD D s = some v) : ∃ n, findD D s = (v, n) ∧ 1 ≤ n ∧ n ≤ 4 := by
  obtain ⟨a, b, c, d⟩ := find_key (D := D) (s := s) 4 0 rfl
  unfold valD keyD at h
  rw [find_pos hs]
  cases hk : keyF D s 4 0 with
  | none => rw [hk] at h; cases h
  | some j =>
    rw [hk] at h a
    have e : metA D (plc s j) = v := by simpa using h
    have a1 : findF D s 4 0 = (metA D (plc s j), (j : Int) + 1) := a
    have d1 := d (by omega)
    rw [a1] at c d1
    exact ⟨(j : Int) + 1, by rw [a1, e], by simpa using d1, c⟩
theorem find_cnt (D : Dst) (s : Int) : 0 ≤ (findD D s).2 ∧ (findD D s).2 ≤ 4 ∧ (decide ((findD D s).2 > 0) = decide (s ≥ 0)) := by
  by_cases hs : s < 0
  · rw [find_neg hs]
    refine ⟨by simp, by simp, ?_⟩
    rw [decide_eq_false (p := s ≥ 0) (by omega)]; rfl
  · obtain ⟨a, b, c, d⟩ := find_key (D := D) (s := s) 4 0 rfl
    rw [find_pos (by omega)]
    have := d (by omega)
    refine ⟨by simpa using b, c, ?_⟩
    rw [decide_eq_true (p := s ≥ 0) (by omega), decide_eq_true (p := (findF D s 4 0).2 > 0) (by simp at this; omega)]
/-- where a name is put: where it is met, or at the first empty place of its path -/
theorem putF_key {D : Dst} {s : Int} (hs : 0 ≤ s) : ∀ (f k : Nat), match putF D s f k with
    | some p => ∃ j, k ≤ j ∧ j < k + f ∧ p = plc s j ∧ (∀ i, k ≤ i → i < j → 0 ≤ selA D (plc s i) ∧ selA D (plc s i) ≠ s) ∧ ((selA D p = s ∧ keyF D s f k = some j) ∨ (selA D p < 0 ∧ keyF D s f k = none))
    | none => keyF D s f k = none
  | 0, k => rfl
  | f + 1, k => by
    have ih := putF_key (D := D) hs f (k + 1)
    unfold putF keyF
    by_cases h1 : selA D (plc s k) = s
    · rw [if_pos (Or.inl h1), if_pos h1]
      exact ⟨k, Nat.le_refl _, by omega, rfl, fun i h2 h3 => by omega, Or.inl ⟨h1, rfl⟩⟩
    · by_cases h2 : selA D (plc s k) < 0
      · rw [if_pos (Or.inr h2), if_neg h1, if_pos h2]
        exact ⟨k, Nat.le_refl _, by omega, rfl, fun i h2 h3 => by omega, Or.inr ⟨h2, rfl⟩⟩
      · rw [if_neg (by rintro (h | h); exact h1 h; exact h2 h), if_neg h1, if_neg h2]
        cases hp : putF D s f (k + 1) with
        | none => rw [hp] at ih; exact ih
        | some p =>
          rw [hp] at ih
          obtain ⟨j, a, b, c, d, e⟩ := ih
          refine ⟨j, by omega, by omega, c, fun i h3 h4 => ?_, e⟩
          by_cases hi : i = k
          · subst hi; exact ⟨by omega, h1⟩
          · exact d i (by omega) h4
theorem put_out {D : Dst} {s : Int} (hs : 0 ≤ s) (h : putP D s = none) : valD D s = none := by
  have := putF_key (D := D) hs 4 0
  rw [put_pos hs] at h
  rw [h] at this
  unfold valD keyD
  rw [this]; rfl
theorem key_of_val {D : Dst} (hD : InvD D) {t : Int} (ht : 0 ≤ t) {p : Nat} (hp : p < 16) (h : selA D p = t) : ∃ k, keyD D t = some k ∧ plc t k = p := by
  have := hD.met p hp (by omega)
  rw [h] at this
  exact this
theorem put_in {D : Dst} (hD : InvD D) {s m : Int} (hs : 0 ≤ s) {p : Nat} (h : putP D s = some p) : InvD (D.set p (s, m)) ∧ valD (D.set p (s, m)) s = some m ∧ (∀ t, 0 ≤ t → t ≠ s → valD (D.set p (s, m)) t = valD D t) ∧ (valD D s = none ↔ selA D p < 0) := by
  have hp := putP_lt h
  have hk := putF_key (D := D) hs 4 0
  rw [put_pos hs] at h
  rw [h] at hk
  obtain ⟨j, h1, h2, rfl, h3, h4⟩ := hk
  have hsel := fun q => sel_set hD.len hp s m q
  have hmet := fun q => met_set hD.len hp s m q
  generalize hD' : D.set (plc s j) (s, m) = D' at *
  -- the new one is met
  have ks : keyD D' s = some j := by
    refine keyF_path 4 0 h1 h2 (by rw [hsel, if_pos rfl]) (fun i a b => ?_)
    obtain ⟨x, y⟩ := h3 i a b
    have hne : plc s i ≠ plc s j := by
      intro e
      rcases h4 with ⟨e1, _⟩ | ⟨e1, _⟩
      · exact y (by rw [e]; exact e1)
      · rw [e] at x; omega
    rw [hsel, if_neg hne]
    exact ⟨x, y⟩
  -- an elder one is met as before
  have ko : ∀ t, 0 ≤ t → t ≠ s → ∀ k, keyD D t = some k → keyD D' t = some k ∧ plc t k ≠ plc s j := by
    intro t ht hts k hk
    obtain ⟨a, b, c, d⟩ := keyF_some 4 0 hk
    have off : ∀ i, selA D (plc t i) ≠ s → 0 ≤ selA D (plc t i) → plc t i ≠ plc s j := by
      intro i u v e
      rcases h4 with ⟨e1, _⟩ | ⟨e1, _⟩
      · exact u (by rw [e]; exact e1)
      · rw [e] at v; omega
    have hkk : plc t k ≠ plc s j := off k (by rw [a]; exact hts) (by rw [a]; exact ht)
    refine ⟨keyF_path 4 0 b c (by rw [hsel, if_neg hkk]; exact a) (fun i u v => ?_), hkk⟩
    obtain ⟨x, y⟩ := d i u v
    rw [hsel]
    split
    · exact ⟨hs, fun e => hts e.symm⟩
    · exact ⟨x, y⟩
  -- none is met that was not there
  have kn : ∀ t, 0 ≤ t → t ≠ s → keyD D t = none → keyD D' t = none := by
    intro t ht hts hk
    cases hk' : keyD D' t with
    | none => rfl
    | some k =>
      obtain ⟨a, _⟩ := keyF_some 4 0 hk'
      rw [hsel] at a
      split at a
      · exact absurd a.symm hts
      · obtain ⟨k2, e, _⟩ := key_of_val hD ht (plc_lt t k) a
        rw [hk] at e; cases e
  refine ⟨⟨by rw [← hD']; simp [hD.len], fun q hq hq0 => ?_⟩, ?_, fun t ht hts => ?_, ?_⟩
  · by_cases e : q = plc s j
    · subst e
      have es : selA D' (plc s j) = s := by rw [hsel, if_pos rfl]
      rw [es]; exact ⟨j, ks, rfl⟩
    · have es : selA D' q = selA D q := by rw [hsel, if_neg e]
      rw [es] at hq0 ⊢
      obtain ⟨k, e1, e2⟩ := hD.met q hq hq0
      by_cases hts : selA D q = s
      · rw [hts] at e1 e2 ⊢
        rcases h4 with ⟨_, e3⟩ | ⟨_, e3⟩
        · unfold keyD at e1
          rw [e3] at e1
          cases e1
          exact absurd e2.symm e
        · unfold keyD at e1
          rw [e3] at e1; cases e1
      · exact ⟨k, (ko _ hq0 hts k e1).1, e2⟩
  · unfold valD
    rw [ks]
    simp [hmet]
  · unfold valD
    cases hk : keyD D t with
    | none => rw [kn t ht hts hk]; rfl
    | some k =>
      obtain ⟨a, b⟩ := ko t ht hts k hk
      rw [a]
      simp only [Option.map_some, hmet, if_neg b]
  · unfold valD keyD
    rcases h4 with ⟨e1, e3⟩ | ⟨e1, e3⟩
    · rw [e3, e1]
      simp only [Option.map_some]
      exact ⟨fun h => by (cases h), fun h => by omega⟩
    · rw [e3]
      exact ⟨fun _ => e1, fun _ => rfl⟩
theorem inv_start : InvD D0 := by
  refine ⟨rfl, fun p hp h => ?_⟩
  exfalso
  have : selA D0 p = -1 := by
    unfold selA D0
    rw [List.getD_eq_getElem?_getD, List.getElem?_replicate]
    split <;> rfl
  omega
theorem val_start {t : Int} (ht : 0 ≤ t) : valD D0 t = none := by
  cases h : keyD D0 t with
  | none => unfold valD; rw [h]; rfl
  | some k =>
    obtain ⟨a, _⟩ := keyF_some 4 0 h
    have : selA D0 (plc t k) = -1 := by
      unfold selA D0
      rw [List.getD_eq_getElem?_getD, List.getElem?_replicate]
      split <;> rfl
    omega
/-- how many there are behind a put -/
theorem cnt_set {D : Dst} {p : Nat} (hp : p < D.length) {s m : Int} (hs : 0 ≤ s) : cnt (D.set p (s, m)) = cnt D + (if selA D p < 0 then 1 else 0) := by
  unfold cnt
  have hx : D[p]? = some (D[p]) := by simp
  have hsel : selA D p = (D[p]).1 := by unfold selA; simp [List.getD_eq_getElem?_getD, hx]
  have hdrop : D.drop p = D[p] :: D.drop (p + 1) := List.drop_eq_getElem_cons hp
  rw [hsel, List.set_eq_take_append_cons_drop, if_pos hp]
  generalize D[p] = x at *
  have e : (D.filter (fun x => decide (0 ≤ x.1))).length = ((D.take p).filter (fun x => decide (0 ≤ x.1))).length + ((x :: D.drop (p + 1)).filter (fun x => decide (0 ≤ x.1))).length := by
    rw [← List.length_append, ← List.filter_append, ← hdrop, List.take_append_drop]
  rw [e]
  simp only [List.filter_append, List.length_append, List.filter_cons]
  rw [if_pos (by simpa using hs)]
  by_cases h : x.1 < 0
  · rw [if_neg (by simp; omega), if_pos h]
    simp; omega
  · rw [if_pos (by simp; omega), if_neg h]
    simp
end Wd
end Go.Proofs.Ytdpckckfkpefnaa
