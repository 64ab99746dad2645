/- Texts joined: RMath. -/
import Derived.Test.YtdaojohdmidemaaGreatJ1
/- Rings as lists: what holds of them, whoever keeps them. No program is named here. -/
namespace Go.Proofs.YtdaojohdmidemaaGreat
set_option maxRecDepth 20000
open Go.RowKit
namespace Wd
theorem idxOf_at {L : List Int} (hn : L.Nodup) {k : Nat} {j : Int} (h : L[k]? = some j) : L.idxOf j = k := by
  obtain ⟨hk, rfl⟩ := List.getElem?_eq_some_iff.1 h
  exact hn.idxOf_getElem k hk
theorem nxt_at {L : List Int} (hn : L.Nodup) {k : Nat} {j : Int} (h : L[k]? = some j) : nxt L j = (L[(k + 1) % L.length]?).getD 0 := by
  unfold nxt
  rw [if_pos (List.mem_of_getElem? h), idxOf_at hn h]
theorem prv_at {L : List Int} (hn : L.Nodup) {k : Nat} {j : Int} (h : L[k]? = some j) : prv L j = (L[(k + L.length - 1) % L.length]?).getD 0 := by
  unfold prv
  rw [if_pos (List.mem_of_getElem? h), idxOf_at hn h]
theorem frm_at {L : List Int} (hn : L.Nodup) {k : Nat} {j : Int} (h : L[k]? = some j) : frm L j = L.drop k ++ L.take k := by
  unfold frm
  rw [if_pos (List.mem_of_getElem? h), idxOf_at hn h]
theorem nxt_out {L : List Int} {j : Int} (h : j ∉ L) : nxt L j = -1 := by simp [nxt, h]
theorem prv_out {L : List Int} {j : Int} (h : j ∉ L) : prv L j = -1 := by simp [prv, h]
theorem frm_out {L : List Int} {j : Int} (h : j ∉ L) : frm L j = [] := by simp [frm, h]
theorem mem_at {L : List Int} {j : Int} (h : j ∈ L) : ∃ k : Nat, L[k]? = some j ∧ k < L.length := by
  obtain ⟨k, hk, rfl⟩ := List.mem_iff_getElem.1 h
  exact ⟨k, by simp, hk⟩
/-- going round by one -/
theorem nxt_rot1 (x : Int) (T : List Int) (hn : (x :: T).Nodup) (j : Int) : nxt (T ++ [x]) j = nxt (x :: T) j := by
  have hn' : (T ++ [x]).Nodup := (List.perm_append_singleton x T).nodup_iff.2 hn
  by_cases hj : j ∈ x :: T
  · rcases List.mem_cons.1 hj with rfl | hT
    · rw [nxt_at hn (k := 0) (by simp), nxt_at hn' (k := T.length) (by simp)]
      cases T with
      | nil => simp
      | cons y T => simp [Nat.mod_eq_of_lt]
    · obtain ⟨m, hm, hl⟩ := mem_at hT
      rw [nxt_at hn (k := m + 1) (by simpa using hm), nxt_at hn' (k := m) (by rw [List.getElem?_append_left hl]; exact hm)]
      have e1 : (m + 1) % (T ++ [x]).length = m + 1 := Nat.mod_eq_of_lt (by simp; omega)
      rw [e1]
      by_cases hlast : m + 1 = T.length
      · have e2 : (m + 1 + 1) % (x :: T).length = 0 := by simp [hlast]
        rw [e2, hlast]; simp
      · have e2 : (m + 1 + 1) % (x :: T).length = m + 2 := Nat.mod_eq_of_lt (by simp; omega)
        rw [e2, List.getElem?_append_left (by omega)]; simp
  · rw [nxt_out hj, nxt_out (by simpa [and_comm] using hj)]
theorem prv_rot1 (x : Int) (T : List Int) (hn : (x :: T).Nodup) (j : Int) : prv (T ++ [x]) j = prv (x :: T) j := by
  have hn' : (T ++ [x]).Nodup := (List.perm_append_singleton x T).nodup_iff.2 hn
  by_cases hj : j ∈ x :: T
  · rcases List.mem_cons.1 hj with rfl | hT
    · rw [prv_at hn (k := 0) (by simp), prv_at hn' (k := T.length) (by simp)]
      have e1 : (T.length + (T ++ [j]).length - 1) % (T ++ [j]).length = T.length - 1 + (if T.length = 0 then 0 else 0) := by
        simp only [List.length_append, List.length_singleton]
        cases hT : T.length with
        | zero => simp
        | succ t => rw [show t + 1 + (t + 1 + 1) - 1 = t + (t + 1 + 1) by omega, Nat.add_mod_right, Nat.mod_eq_of_lt (by omega)]; simp
      have e2 : (0 + (j :: T).length - 1) % (j :: T).length = T.length := by simp
      rw [e1, e2]
      cases T with
      | nil => simp
      | cons y T =>
        rw [List.getElem?_append_left (by simp)]
        simp
    · obtain ⟨m, hm, hl⟩ := mem_at hT
      rw [prv_at hn (k := m + 1) (by simpa using hm), prv_at hn' (k := m) (by rw [List.getElem?_append_left hl]; exact hm)]
      have e2 : (m + 1 + (x :: T).length - 1) % (x :: T).length = m := by
        rw [show m + 1 + (x :: T).length - 1 = m + (x :: T).length by omega, Nat.add_mod_right]
        exact Nat.mod_eq_of_lt (by simp; omega)
      rw [e2]
      cases m with
      | zero =>
        have e1 : (0 + (T ++ [x]).length - 1) % (T ++ [x]).length = T.length := by simp
        rw [e1]; simp
      | succ m =>
        have e1 : (m + 1 + (T ++ [x]).length - 1) % (T ++ [x]).length = m := by
          rw [show m + 1 + (T ++ [x]).length - 1 = m + (T ++ [x]).length by omega, Nat.add_mod_right]
          exact Nat.mod_eq_of_lt (by simp; omega)
        rw [e1, List.getElem?_append_left (by omega)]; simp
  · rw [prv_out hj, prv_out (by simpa [and_comm] using hj)]
theorem frm_rot1 (x : Int) (T : List Int) (hn : (x :: T).Nodup) (j : Int) : frm (T ++ [x]) j = frm (x :: T) j := by
  have hn' : (T ++ [x]).Nodup := (List.perm_append_singleton x T).nodup_iff.2 hn
  by_cases hj : j ∈ x :: T
  · rcases List.mem_cons.1 hj with rfl | hT
    · rw [frm_at hn (k := 0) (by simp), frm_at hn' (k := T.length) (by simp)]; simp
    · obtain ⟨m, hm, hl⟩ := mem_at hT
      rw [frm_at hn (k := m + 1) (by simpa using hm), frm_at hn' (k := m) (by rw [List.getElem?_append_left hl]; exact hm)]
      rw [List.drop_append_of_le_length (by omega), List.take_append_of_le_length (by omega)]
      simp
  · rw [frm_out hj, frm_out (by simpa [and_comm] using hj)]
/-- what holds of a ring however it is turned -/
theorem rot_all {α : Type} (F : List Int → α) (h1 : ∀ x T, (x :: T).Nodup → F (T ++ [x]) = F (x :: T)) : ∀ (A B : List Int), (A ++ B).Nodup → F (B ++ A) = F (A ++ B)
  | [], B, _ => by simp
  | x :: A, B, h => by
    have h2 : (A ++ (B ++ [x])).Nodup := by
      rw [← List.append_assoc]
      exact (List.perm_append_singleton x (A ++ B)).nodup_iff.2 (by simpa using h)
    have := rot_all F h1 A (B ++ [x]) h2
    have h3 := h1 x (A ++ B) (by simpa using h)
    simp only [List.append_assoc, List.cons_append, List.nil_append] at this h3 ⊢
    exact this.trans h3
theorem nxt_rot (A B : List Int) (hn : (A ++ B).Nodup) (j : Int) : nxt (B ++ A) j = nxt (A ++ B) j := rot_all (fun l => nxt l j) (fun x T h => nxt_rot1 x T h j) A B hn
theorem prv_rot (A B : List Int) (hn : (A ++ B).Nodup) (j : Int) : prv (B ++ A) j = prv (A ++ B) j := rot_all (fun l => prv l j) (fun x T h => prv_rot1 x T h j) A B hn
theorem frm_rot (A B : List Int) (hn : (A ++ B).Nodup) (j : Int) : frm (B ++ A) j = frm (A ++ B) j := rot_all (fun l => frm l j) (fun x T h => frm_rot1 x T h j) A B hn
theorem nxt_get {L : List Int} (hn : L.Nodup) {k : Nat} {j : Int} (h : L[k]? = some j) : (k + 1 < L.length ∧ L[k + 1]? = some (nxt L j)) ∨ (k + 1 = L.length ∧ L[0]? = some (nxt L j)) := by
  have hk := (List.getElem?_eq_some_iff.1 h).1
  rw [nxt_at hn h]
  by_cases hl : k + 1 < L.length
  · left
    rw [Nat.mod_eq_of_lt hl]
    exact ⟨hl, by simp [hl]⟩
  · right
    have e : k + 1 = L.length := by omega
    rw [e, Nat.mod_self]
    exact ⟨rfl, by simp [show 0 < L.length by omega]⟩
theorem prv_get {L : List Int} (hn : L.Nodup) {k : Nat} {j : Int} (h : L[k]? = some j) : (∃ m, k = m + 1 ∧ L[m]? = some (prv L j)) ∨ (k = 0 ∧ L[L.length - 1]? = some (prv L j)) := by
  have hk := (List.getElem?_eq_some_iff.1 h).1
  rw [prv_at hn h]
  cases k with
  | zero =>
    right
    have e : (0 + L.length - 1) % L.length = L.length - 1 := by rw [Nat.zero_add]; exact Nat.mod_eq_of_lt (by omega)
    rw [e]
    exact ⟨rfl, by simp [show L.length - 1 < L.length by omega]⟩
  | succ m =>
    left
    have e : (m + 1 + L.length - 1) % L.length = m := by
      rw [show m + 1 + L.length - 1 = m + L.length by omega, Nat.add_mod_right]
      exact Nat.mod_eq_of_lt (by omega)
    rw [e]
    exact ⟨m, rfl, by simp [show m < L.length by omega]⟩
theorem nxt_mem {L : List Int} (hn : L.Nodup) {j : Int} (h : j ∈ L) : nxt L j ∈ L := by
  obtain ⟨k, hk, _⟩ := mem_at h
  rcases nxt_get hn hk with ⟨_, h⟩ | ⟨_, h⟩ <;> exact List.mem_of_getElem? h
theorem prv_mem {L : List Int} (hn : L.Nodup) {j : Int} (h : j ∈ L) : prv L j ∈ L := by
  obtain ⟨k, hk, _⟩ := mem_at h
  rcases prv_get hn hk with ⟨_, _, h⟩ | ⟨_, h⟩ <;> exact List.mem_of_getElem? h
theorem get_inj {L : List Int} (hn : L.Nodup) {k m : Nat} {j : Int} (h : L[k]? = some j) (h' : L[m]? = some j) : k = m := (idxOf_at hn h).symm.trans (idxOf_at hn h')
/-- the one ahead of the one behind -/
theorem prv_nxt {L : List Int} (hn : L.Nodup) {j : Int} (h : j ∈ L) : prv L (nxt L j) = j := by
  obtain ⟨k, hk, hl⟩ := mem_at h
  rcases nxt_get hn hk with ⟨h1, h2⟩ | ⟨h1, h2⟩
  · rcases prv_get hn h2 with ⟨m, e, h3⟩ | ⟨e, _⟩
    · obtain rfl : m = k := by omega
      rw [hk] at h3; exact (Option.some.inj h3).symm
    · omega
  · rcases prv_get hn h2 with ⟨m, e, h3⟩ | ⟨e, h3⟩
    · omega
    · rw [show L.length - 1 = k by omega, hk] at h3; exact (Option.some.inj h3).symm
theorem nxt_prv {L : List Int} (hn : L.Nodup) {j : Int} (h : j ∈ L) : nxt L (prv L j) = j := by
  obtain ⟨k, hk, hl⟩ := mem_at h
  rcases prv_get hn hk with ⟨m, e, h2⟩ | ⟨e, h2⟩
  · rcases nxt_get hn h2 with ⟨_, h3⟩ | ⟨e', _⟩
    · rw [← e, hk] at h3; exact (Option.some.inj h3).symm
    · omega
  · rcases nxt_get hn h2 with ⟨e', _⟩ | ⟨_, h3⟩
    · omega
    · rw [← e, hk] at h3; exact (Option.some.inj h3).symm
/-- one that is in, and what goes round from it -/
theorem split_at {L : List Int} (hn : L.Nodup) {i : Int} (h : i ∈ L) : ∃ A B, L = A ++ i :: B ∧ i ∉ A ∧ A.length = L.idxOf i := by
  have hk := List.idxOf_lt_length_of_mem h
  refine ⟨L.take (L.idxOf i), L.drop (L.idxOf i + 1), ?_, ?_, ?_⟩
  · conv => lhs; rw [← List.take_append_drop (L.idxOf i) L]
    rw [List.drop_eq_getElem_cons hk, List.getElem_idxOf]
  · intro hm
    obtain ⟨m, h1, h2⟩ := mem_at hm
    rw [List.length_take] at h2
    rw [List.getElem?_take_of_lt (by omega)] at h1
    have := idxOf_at hn h1
    omega
  · rw [List.length_take]; omega
theorem nd_rot {A B : List Int} (hn : (A ++ B).Nodup) : (B ++ A).Nodup := (List.perm_append_comm (l₁ := A) (l₂ := B)).nodup_iff.1 hn
/-- a ring, and the same turned so that i is first -/
theorem turned {L : List Int} (hn : L.Nodup) {i : Int} (h : i ∈ L) : ∃ C, (i :: C).Nodup ∧ C.length + 1 = L.length ∧ (∀ j, j ∈ L ↔ j = i ∨ j ∈ C) ∧ (∀ j, nxt L j = nxt (i :: C) j) ∧ (∀ j, prv L j = prv (i :: C) j) ∧ (∀ j, frm L j = frm (i :: C) j) ∧
    (outL L i).Nodup ∧ (outL L i).length = C.length ∧ (∀ j, j ∈ outL L i ↔ j ∈ C) ∧ (∀ j, nxt (outL L i) j = nxt C j) ∧ (∀ j, prv (outL L i) j = prv C j) ∧ (∀ j, frm (outL L i) j = frm C j) := by
  obtain ⟨A, B, e, hA, hl⟩ := split_at hn h
  have eo : outL L i = A ++ B := by
    unfold outL
    rw [if_pos h, ← hl]
    conv => lhs; rw [e]
    simp
  subst e
  have n1 : (i :: B ++ A).Nodup := nd_rot hn
  have n2 : (A ++ B).Nodup := by
    have : (B ++ A).Nodup := (List.nodup_cons.1 n1).2
    exact nd_rot this
  rw [eo]
  refine ⟨B ++ A, n1, by simp; omega, fun j => ?_, fun j => (nxt_rot A (i :: B) hn j).symm, fun j => (prv_rot A (i :: B) hn j).symm, fun j => (frm_rot A (i :: B) hn j).symm, n2, by simp; omega, fun j => ?_, fun j => (nxt_rot A B n2 j).symm, fun j => (prv_rot A B n2 j).symm, fun j => (frm_rot A B n2 j).symm⟩
  · simp only [List.mem_append, List.mem_cons]; constructor <;> (intro h; rcases h with h | h | h <;> simp [h])
  · simp only [List.mem_append]; exact or_comm
theorem nxt_cut {i : Int} {C : List Int} (hn : (i :: C).Nodup) {j : Int} (hj : j ∈ C) : nxt C j = if nxt (i :: C) j = i then nxt (i :: C) i else nxt (i :: C) j := by
  have hC := (List.nodup_cons.1 hn).2
  have hi := (List.nodup_cons.1 hn).1
  obtain ⟨m, hm, hl⟩ := mem_at hj
  have hm' : (i :: C)[m + 1]? = some j := by simpa using hm
  have h0 : (i :: C)[0]? = some i := rfl
  rcases nxt_get hC hm with ⟨h1, h2⟩ | ⟨h1, h2⟩
  · rcases nxt_get hn hm' with ⟨_, h3⟩ | ⟨h3, _⟩
    · simp only [List.getElem?_cons_succ] at h3
      rw [h2] at h3
      have e := Option.some.inj h3
      rw [← e, if_neg]
      intro e2; rw [e2] at h2; exact hi (List.mem_of_getElem? h2)
    · simp at h3; omega
  · rcases nxt_get hn hm' with ⟨h3, _⟩ | ⟨_, h3⟩
    · simp at h3; omega
    · rw [h0] at h3
      rw [if_pos (Option.some.inj h3).symm]
      rcases nxt_get hn h0 with ⟨_, h4⟩ | ⟨h4, _⟩
      · simp only [List.getElem?_cons_succ] at h4
        rw [h2] at h4; exact Option.some.inj h4
      · simp at h4; rw [h4] at hl; simp at hl
theorem prv_cut {i : Int} {C : List Int} (hn : (i :: C).Nodup) {j : Int} (hj : j ∈ C) : prv C j = if prv (i :: C) j = i then prv (i :: C) i else prv (i :: C) j := by
  have hC := (List.nodup_cons.1 hn).2
  have hi := (List.nodup_cons.1 hn).1
  obtain ⟨m, hm, hl⟩ := mem_at hj
  have hm' : (i :: C)[m + 1]? = some j := by simpa using hm
  have h0 : (i :: C)[0]? = some i := rfl
  rcases prv_get hn hm' with ⟨q, e, h3⟩ | ⟨e, _⟩
  · obtain rfl : q = m := by omega
    cases q with
    | zero =>
      rw [h0] at h3
      rw [if_pos (Option.some.inj h3).symm]
      rcases prv_get hC hm with ⟨q, e, _⟩ | ⟨_, h2⟩
      · omega
      · rcases prv_get hn h0 with ⟨q, e, _⟩ | ⟨_, h4⟩
        · omega
        · obtain ⟨c, hc⟩ : ∃ c, C.length = c + 1 := ⟨C.length - 1, by omega⟩
          simp only [List.length_cons, hc, Nat.add_sub_cancel, List.getElem?_cons_succ] at h4 h2
          rw [h2] at h4; exact Option.some.inj h4
    | succ q =>
      simp only [List.getElem?_cons_succ] at h3
      rcases prv_get hC hm with ⟨r, e, h2⟩ | ⟨e, _⟩
      · obtain rfl : r = q := by omega
        rw [h2] at h3
        have e := Option.some.inj h3
        rw [← e, if_neg]
        intro e2; rw [e2] at h2; exact hi (List.mem_of_getElem? h2)
      · omega
  · omega
/-- what is behind, and ahead, when one is taken out -/
theorem nxt_outL {L : List Int} (hn : L.Nodup) {i j : Int} (hi : i ∈ L) (hj : j ∈ L) (hne : j ≠ i) : nxt (outL L i) j = if nxt L j = i then nxt L i else nxt L j := by
  obtain ⟨C, h1, _, h3, h4, _, _, _, _, _, h9, _, _⟩ := turned hn hi
  rw [h9, h4, h4]
  exact nxt_cut h1 (((h3 j).1 hj).resolve_left hne)
theorem prv_outL {L : List Int} (hn : L.Nodup) {i j : Int} (hi : i ∈ L) (hj : j ∈ L) (hne : j ≠ i) : prv (outL L i) j = if prv L j = i then prv L i else prv L j := by
  obtain ⟨C, h1, _, h3, _, h5, _, _, _, _, _, h10, _⟩ := turned hn hi
  rw [h10, h5, h5]
  exact prv_cut h1 (((h3 j).1 hj).resolve_left hne)
theorem mem_outL {L : List Int} (hn : L.Nodup) {i : Int} (hi : i ∈ L) (j : Int) : j ∈ outL L i ↔ j ∈ L ∧ j ≠ i := by
  obtain ⟨C, h1, _, h3, _, _, _, _, _, h8, _⟩ := turned hn hi
  have hiC := (List.nodup_cons.1 h1).1
  rw [h8, h3]
  constructor
  · intro h; exact ⟨Or.inr h, fun e => hiC (e ▸ h)⟩
  · rintro ⟨h | h, hne⟩
    · exact absurd h hne
    · exact h
theorem nd_outL {L : List Int} (hn : L.Nodup) (i : Int) : (outL L i).Nodup := by
  by_cases hi : i ∈ L
  · obtain ⟨C, _, _, _, _, _, _, h, _⟩ := turned hn hi; exact h
  · simpa [outL, hi] using hn
theorem len_outL {L : List Int} (hn : L.Nodup) {i : Int} (hi : i ∈ L) : (outL L i).length + 1 = L.length := by
  obtain ⟨C, _, h2, _, _, _, _, _, h, _⟩ := turned hn hi; omega
/-- one that is put in: where it stands, and that it is taken out again -/
theorem inL_facts {L : List Int} (hn : L.Nodup) {i a : Int} (hi : i ∉ L) (ha : a ∈ L) : (inL L i a).Nodup ∧ i ∈ inL L i a ∧ outL (inL L i a) i = L ∧ nxt (inL L i a) i = a ∧ (inL L i a).length = L.length + 1 := by
  obtain ⟨A, B, e, hA, hl⟩ := split_at hn ha
  have em : inL L i a = A ++ i :: (a :: B) := by
    unfold inL
    rw [if_pos ha, ← hl]
    conv => lhs; rw [e]
    simp
  rw [em]
  have n1 : (A ++ i :: (a :: B)).Nodup := by
    have : (i :: (A ++ a :: B)).Nodup := List.nodup_cons.2 ⟨e ▸ hi, e ▸ hn⟩
    exact (List.perm_middle (a := i) (l₁ := A) (l₂ := a :: B)).nodup_iff.2 this
  have hm : i ∈ A ++ i :: (a :: B) := by simp
  have hg : (A ++ i :: (a :: B))[A.length]? = some i := by simp
  refine ⟨n1, hm, ?_, ?_, by rw [e]; simp; omega⟩
  · unfold outL
    rw [if_pos hm, idxOf_at n1 hg, e]
    simp
  · rcases nxt_get n1 hg with ⟨_, h2⟩ | ⟨h1, _⟩
    · have : (A ++ i :: (a :: B))[A.length + 1]? = some a := by rw [List.getElem?_append_right (by omega)]; simp
      rw [this] at h2; exact (Option.some.inj h2).symm
    · simp at h1
theorem mem_inL {L : List Int} (hn : L.Nodup) {i a : Int} (hi : i ∉ L) (ha : a ∈ L) (j : Int) : j ∈ inL L i a ↔ j = i ∨ j ∈ L := by
  obtain ⟨n1, hm, ho, _, _⟩ := inL_facts hn hi ha
  have h := mem_outL n1 hm j
  rw [ho] at h
  constructor
  · intro hj
    by_cases e : j = i
    · exact Or.inl e
    · exact Or.inr (h.2 ⟨hj, e⟩)
  · rintro (rfl | hj)
    · exact hm
    · exact (h.1 hj).1
theorem nxt_inL {L : List Int} (hn : L.Nodup) {i a j : Int} (hi : i ∉ L) (ha : a ∈ L) (hj : j ∈ L) : nxt (inL L i a) j = if nxt L j = a then i else nxt L j := by
  obtain ⟨n1, hm, ho, hx, _⟩ := inL_facts hn hi ha
  have hne : j ≠ i := fun e => hi (e ▸ hj)
  have hjm := (mem_inL hn hi ha j).2 (Or.inr hj)
  have h := nxt_outL n1 hm hjm hne
  rw [ho, hx] at h
  by_cases c : nxt (inL L i a) j = i
  · rw [if_pos c] at h; rw [if_pos h, c]
  · rw [if_neg c] at h
    rw [h, if_neg]
    intro e
    have h1 := prv_nxt n1 hjm
    have h2 := prv_nxt n1 hm
    rw [e] at h1; rw [hx, h1] at h2; exact hne h2
theorem prv_inL {L : List Int} (hn : L.Nodup) {i a : Int} (hi : i ∉ L) (ha : a ∈ L) : prv (inL L i a) i = prv L a ∧ ∀ j, j ∈ L → prv (inL L i a) j = if j = a then i else prv L j := by
  obtain ⟨n1, hm, ho, hx, _⟩ := inL_facts hn hi ha
  have hpa : prv (inL L i a) a = i := by have := prv_nxt n1 hm; rwa [hx] at this
  have key : ∀ j, j ∈ L → prv L j = if prv (inL L i a) j = i then prv (inL L i a) i else prv (inL L i a) j := fun j hj => by
    have h := prv_outL n1 hm ((mem_inL hn hi ha j).2 (Or.inr hj)) (fun e => hi (e ▸ hj))
    rwa [ho] at h
  refine ⟨?_, fun j hj => ?_⟩
  · have := key a ha; rw [if_pos hpa] at this; exact this.symm
  · by_cases c : j = a
    · rw [if_pos c, c, hpa]
    · rw [if_neg c, key j hj, if_neg]
      intro e
      have := nxt_prv n1 ((mem_inL hn hi ha j).2 (Or.inr hj))
      rw [e, hx] at this; exact c this.symm
/-- all from one on: it, and what goes round -/
theorem frm_facts {L : List Int} (hn : L.Nodup) {i : Int} (hi : i ∈ L) : (frm L i).length = L.length ∧ (frm L i)[0]? = some i ∧ (∀ (k : Nat) (x : Int), k + 1 < L.length → (frm L i)[k]? = some x → (frm L i)[k + 1]? = some (nxt L x)) ∧
    (∀ x, (frm L i)[L.length - 1]? = some x → nxt L x = i) ∧ (∀ (k : Nat) (x : Int), (frm L i)[k]? = some x → x ∈ L) ∧ (frm L i).Nodup := by
  obtain ⟨C, h1, h2, h3, h4, _, h6, _⟩ := turned hn hi
  have e : frm L i = i :: C := by
    rw [h6, frm_at h1 (k := 0) rfl]; simp
  rw [e]
  refine ⟨by simp; omega, rfl, fun k x hk hx => ?_, fun x hx => ?_, fun k x hx => ?_, h1⟩
  · rw [h4]
    rcases nxt_get h1 hx with ⟨_, h⟩ | ⟨h, _⟩
    · exact h
    · simp at h; omega
  · rw [h4]
    rcases nxt_get h1 hx with ⟨h, _⟩ | ⟨_, h⟩
    · simp at h; omega
    · simp at h; exact h.symm
  · exact (h3 x).2 (List.mem_cons.1 (List.mem_of_getElem? hx))
/-- one that is taken out, and put in ahead of the one behind it, is where it was -/
theorem back_same {L : List Int} (hn : L.Nodup) {x : Int} (hx : x ∈ L) (hl : 2 ≤ L.length) : (inL (outL L x) x (nxt L x)).Nodup ∧ (inL (outL L x) x (nxt L x)).length = L.length ∧ (∀ j, j ∈ inL (outL L x) x (nxt L x) ↔ j ∈ L) ∧
    (∀ j, nxt (inL (outL L x) x (nxt L x)) j = nxt L j) ∧ (∀ j, prv (inL (outL L x) x (nxt L x)) j = prv L j) ∧ (∀ j, frm (inL (outL L x) x (nxt L x)) j = frm L j) := by
  obtain ⟨C, h1, h2, h3, h4, h5, h6, n2, l2, m2, _, _, f2⟩ := turned hn hx
  have hC := (List.nodup_cons.1 h1).2
  have hxC := (List.nodup_cons.1 h1).1
  obtain ⟨a, T, rfl⟩ : ∃ a T, C = a :: T := by
    cases C with
    | nil => simp at h2; omega
    | cons a T => exact ⟨a, T, rfl⟩
  have ea : nxt L x = a := by
    rw [h4]
    rcases nxt_get h1 (k := 0) rfl with ⟨_, h⟩ | ⟨h, _⟩
    · simpa using h.symm
    · simp at h
  have haO : a ∈ outL L x := (m2 a).2 (by simp)
  have hxO : x ∉ outL L x := fun h => hxC ((m2 x).1 h)
  rw [ea]
  obtain ⟨n1, _, _, _, l1⟩ := inL_facts n2 hxO haO
  obtain ⟨A, B, e, hA, hlA⟩ := split_at n2 haO
  have em : inL (outL L x) x a = A ++ x :: (a :: B) := by
    unfold inL
    rw [if_pos haO, ← hlA]
    conv => lhs; rw [e]
    simp
  have ef : a :: B ++ A = a :: T := by
    have h7 := f2 a
    rw [frm_at hC (k := 0) rfl, e, frm_at (e ▸ n2) (k := A.length) (by simp)] at h7
    simpa using h7
  have er : x :: (a :: B) ++ A = x :: (a :: T) := by rw [← ef]; rfl
  rw [em] at n1 l1 ⊢
  refine ⟨n1, ?_, fun j => ?_, fun j => ?_, fun j => ?_, fun j => ?_⟩
  · rw [l1, l2]; simp at h2 ⊢; omega
  · rw [h3]
    have : j ∈ A ++ x :: (a :: B) ↔ j ∈ x :: (a :: B) ++ A := by simp only [List.mem_append]; exact or_comm
    rw [this, er, List.mem_cons]
  · rw [h4, ← nxt_rot A (x :: (a :: B)) n1 j, er]
  · rw [h5, ← prv_rot A (x :: (a :: B)) n1 j, er]
  · rw [h6, ← frm_rot A (x :: (a :: B)) n1 j, er]
end Wd
end Go.Proofs.YtdaojohdmidemaaGreat
