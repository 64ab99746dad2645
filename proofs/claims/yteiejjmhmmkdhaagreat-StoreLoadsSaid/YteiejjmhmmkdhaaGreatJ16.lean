/- Texts joined: MLaw, RMath, NBase, NOps, NRun, NOut, NIn, NNew, NMath, GBase, GOps, GList. -/
import Derived.Test.YteiejjmhmmkdhaaGreatJ1
import Derived.Test.YteiejjmhmmkdhaaGreatJ15
import Derived.OpenShut
import Derived.Deep.RegionHeld3
import Derived.WalkKit
import Derived.WalkSpells
import Derived.WalkLawsBesides
import Derived.Handy
import Derived.Lib.Hide
import Derived.BigQuiet
import Derived.LoopN
import Derived.Maps.AppendAt
import Derived.Deep.AppendLies
import Derived.StillTailTactics
import Derived.BigRegion
/- What the laws ask of a mill, whoever keeps it. -/
namespace Go.Proofs.YteiejjmhmmkdhaaGreat
set_option maxRecDepth 20000
open Go.RowKit
set_option linter.unusedVariables false
namespace Wd
abbrev MAt := World → Nat → Nat → Mst → (Nat → Prop) → Prop
/-- what the laws ask of the package's mill: 'MA w p n A F': at block p lies a mill of n cells, its rows are A; it lies in the blocks F -/
structure MillK (MA : MAt) : Prop where
  lt : ∀ {w p n A F}, MA w p n A F → ∀ k, F k → k < w.heap.size
  keep : ∀ {w w' p n A F}, MA w p n A F → (∀ k, F k → w'.heap[k]? = w.heap[k]?) → MA w' p n A F
  alloc : ∀ {w p n A F}, MA w p n A F → Calls Tryz.prog 150 #[.pointer (some ⟨p, 0, none⟩)] w fun e w' => ∃ F', e = .returned (.int .i64 (firstR A 0)) ∧ MA w' p n (firstA A 0 1) F' ∧ Ch9 F w w' ∧ Newer9 F F' w.heap.size
  shade : ∀ {w p n A F} (i : Int), MA w p n A F → (-9223372036854775808 ≤ i) → (i ≤ 9223372036854775807) → Calls Tryz.prog 163 #[.pointer (some ⟨p, 0, none⟩), .int .i64 i] w fun e w' => ∃ F', e = .returned (.bool (decide (colorR A i = 3))) ∧ MA w' p n (shadeA A i) F' ∧ Ch9 F w w' ∧ Newer9 F F' w.heap.size
  color : ∀ {w p n A F} (i : Int), MA w p n A F → (-9223372036854775808 ≤ i) → (i ≤ 9223372036854775807) → Calls Tryz.prog 158 #[.pointer (some ⟨p, 0, none⟩), .int .i64 i] w fun e w' => e = .returned (.int .i64 (colorR A i)) ∧ Below w.heap.size w w'
  new : ∀ {w} (n : Nat), 1 ≤ n → n ≤ 512 → Calls Tryz.prog 51 #[.int .i64 n] w fun e w' => ∃ p F, e = .returned (.pointer (some ⟨p, 0, none⟩)) ∧ MA w' p n (startA n) F ∧ (∀ k, F k → w.heap.size ≤ k) ∧ Below w.heap.size w w'
  none : ∀ {w} (n : Int), (-9223372036854775808 ≤ n) → (n ≤ 9223372036854775807) → (n < 1 ∨ 512 < n) → Calls Tryz.prog 51 #[.int .i64 n] w fun e w' => e = .returned (.pointer .none) ∧ Below w.heap.size w w'
section
variable {MA : MAt} {w0 wr wA w1 w2 : World} {p b n : Nat} {A A' : Mst} {F F' : Nat → Prop} {V V' : Nat → Value}
end
/-- a mill of the package's, of the call's own -/
structure PM (MA : MAt) (w0 wr : World) (p n : Nat) (A : Mst) (F : Nat → Prop) : Prop where
  ma : MA wr p n A F
  bel : Below w0.heap.size w0 wr
  fF : ∀ k, F k → w0.heap.size ≤ k
  good : Good n A
section
variable {MA : MAt} {w0 wr wA w1 : World} {p n : Nat} {A A' : Mst} {F F' : Nat → Prop}
theorem PM.keep (K : MillK MA) (h : PM MA w0 wr p n A F) (g : Below wr.heap.size wr wA) : PM MA w0 wA p n A F :=
  ⟨K.keep h.ma (fun k hk => g.block k (K.lt h.ma k hk)), h.bel.trans (g.mono h.bel.size), h.fF, h.good⟩
theorem PM.step (h : PM MA w0 wr p n A F) (hm : MA w1 p n A' F') (c : Ch9 F wr w1) (hn : Newer9 F F' wr.heap.size) (good : Good n A') : PM MA w0 w1 p n A' F' := by
  refine ⟨hm, h.bel.trans ⟨c.os, c.tape, c.output, c.size, fun k hk => c.block k (Nat.lt_of_lt_of_le hk h.bel.size) (fun hF => by have := h.fF k hF; omega)⟩, fun k hk => ?_, good⟩
  rcases hn k hk with h' | h'
  · exact h.fF k h'
  · exact Nat.le_trans h.bel.size h'
end
end Wd
end Go.Proofs.YteiejjmhmmkdhaaGreat

/- Rings as lists: what holds of them, whoever keeps them. No program is named here. -/
namespace Go.Proofs.YteiejjmhmmkdhaaGreat
set_option maxRecDepth 20000
open Go.RowKit
namespace Wd
theorem idxOf_at {L : List Int} (hn : L.Nodup) {k : Nat} {j : Int} (h : L[k]? = some j) : L.idxOf j = k := by
  obtain ⟨hk, rfl⟩ := List.getElem?_eq_some_iff.1 h
  exact hn.idxOf_getElem k hk
theorem nxt_at {L : List Int} (hn : L.Nodup) {k : Nat} {j : Int} (h : L[k]? = some j) : nxt L j = (L[(k + 1) % L.length]?).getD 0 := by
  unfold nxt
  rw [if_pos (List.mem_of_getElem? h), idxOf_at hn h]
theorem prv_at {L : List Int} (hn : L.Nodup) {k : Nat} {j : Int} (h : L[k]? = some j) : prv L j = (L[(k + L.length - 1) % L.length]?).getD 0 := by
  unfold prv
  rw [if_pos (List.mem_of_getElem? h), idxOf_at hn h]
theorem frm_at {L : List Int} (hn : L.Nodup) {k : Nat} {j : Int} (h : L[k]? = some j) : frm L j = L.drop k ++ L.take k := by
  unfold frm
  rw [if_pos (List.mem_of_getElem? h), idxOf_at hn h]
theorem nxt_out {L : List Int} {j : Int} (h : j ∉ L) : nxt L j = -1 := by simp [nxt, h]
theorem prv_out {L : List Int} {j : Int} (h : j ∉ L) : prv L j = -1 := by simp [prv, h]
theorem frm_out {L : List Int} {j : Int} (h : j ∉ L) : frm L j = [] := by simp [frm, h]
theorem mem_at {L : List Int} {j : Int} (h : j ∈ L) : ∃ k : Nat, L[k]? = some j ∧ k < L.length := by
  obtain ⟨k, hk, rfl⟩ := List.mem_iff_getElem.1 h
  exact ⟨k, by simp, hk⟩
/-- going round by one -/
theorem nxt_rot1 (x : Int) (T : List Int) (hn : (x :: T).Nodup) (j : Int) : nxt (T ++ [x]) j = nxt (x :: T) j := by
  have hn' : (T ++ [x]).Nodup := (List.perm_append_singleton x T).nodup_iff.2 hn
  by_cases hj : j ∈ x :: T
  · rcases List.mem_cons.1 hj with rfl | hT
    · rw [nxt_at hn (k := 0) (by simp), nxt_at hn' (k := T.length) (by simp)]
      cases T with
      | nil => simp
      | cons y T => simp [Nat.mod_eq_of_lt]
    · obtain ⟨m, hm, hl⟩ := mem_at hT
      rw [nxt_at hn (k := m + 1) (by simpa using hm), nxt_at hn' (k := m) (by rw [List.getElem?_append_left hl]; exact hm)]
      have e1 : (m + 1) % (T ++ [x]).length = m + 1 := Nat.mod_eq_of_lt (by simp; omega)
      rw [e1]
      by_cases hlast : m + 1 = T.length
      · have e2 : (m + 1 + 1) % (x :: T).length = 0 := by simp [hlast]
        rw [e2, hlast]; simp
      · have e2 : (m + 1 + 1) % (x :: T).length = m + 2 := Nat.mod_eq_of_lt (by simp; omega)
        rw [e2, List.getElem?_append_left (by omega)]; simp
  · rw [nxt_out hj, nxt_out (by simpa [and_comm] using hj)]
theorem prv_rot1 (x : Int) (T : List Int) (hn : (x :: T).Nodup) (j : Int) : prv (T ++ [x]) j = prv (x :: T) j := by
  have hn' : (T ++ [x]).Nodup := (List.perm_append_singleton x T).nodup_iff.2 hn
  by_cases hj : j ∈ x :: T
  · rcases List.mem_cons.1 hj with rfl | hT
    · rw [prv_at hn (k := 0) (by simp), prv_at hn' (k := T.length) (by simp)]
      have e1 : (T.length + (T ++ [j]).length - 1) % (T ++ [j]).length = T.length - 1 + (if T.length = 0 then 0 else 0) := by
        simp only [List.length_append, List.length_singleton]
        cases hT : T.length with
        | zero => simp
        | succ t => rw [show t + 1 + (t + 1 + 1) - 1 = t + (t + 1 + 1) by omega, Nat.add_mod_right, Nat.mod_eq_of_lt (by omega)]; simp
      have e2 : (0 + (j :: T).length - 1) % (j :: T).length = T.length := by simp
      rw [e1, e2]
      cases T with
      | nil => simp
      | cons y T =>
        rw [List.getElem?_append_left (by simp)]
        simp
    · obtain ⟨m, hm, hl⟩ := mem_at hT
      rw [prv_at hn (k := m + 1) (by simpa using hm), prv_at hn' (k := m) (by rw [List.getElem?_append_left hl]; exact hm)]
      have e2 : (m + 1 + (x :: T).length - 1) % (x :: T).length = m := by
        rw [show m + 1 + (x :: T).length - 1 = m + (x :: T).length by omega, Nat.add_mod_right]
        exact Nat.mod_eq_of_lt (by simp; omega)
      rw [e2]
      cases m with
      | zero =>
        have e1 : (0 + (T ++ [x]).length - 1) % (T ++ [x]).length = T.length := by simp
        rw [e1]; simp
      | succ m =>
        have e1 : (m + 1 + (T ++ [x]).length - 1) % (T ++ [x]).length = m := by
          rw [show m + 1 + (T ++ [x]).length - 1 = m + (T ++ [x]).length by omega, Nat.add_mod_right]
          exact Nat.mod_eq_of_lt (by simp; omega)
        rw [e1, List.getElem?_append_left (by omega)]; simp
  · rw [prv_out hj, prv_out (by simpa [and_comm] using hj)]
theorem frm_rot1 (x : Int) (T : List Int) (hn : (x :: T).Nodup) (j : Int) : frm (T ++ [x]) j = frm (x :: T) j := by
  have hn' : (T ++ [x]).Nodup := (List.perm_append_singleton x T).nodup_iff.2 hn
  by_cases hj : j ∈ x :: T
  · rcases List.mem_cons.1 hj with rfl | hT
    · rw [frm_at hn (k := 0) (by simp), frm_at hn' (k := T.length) (by simp)]; simp
    · obtain ⟨m, hm, hl⟩ := mem_at hT
      rw [frm_at hn (k := m + 1) (by simpa using hm), frm_at hn' (k := m) (by rw [List.getElem?_append_left hl]; exact hm)]
      rw [List.drop_append_of_le_length (by omega), List.take_append_of_le_length (by omega)]
      simp
  · rw [frm_out hj, frm_out (by simpa [and_comm] using hj)]
/-- what holds of a ring however it is turned -/
theorem rot_all {α : Type} (F : List Int → α) (h1 : ∀ x T, (x :: T).Nodup → F (T ++ [x]) = F (x :: T)) : ∀ (A B : List Int), (A ++ B).Nodup → F (B ++ A) = F (A ++ B)
  | [], B, _ => by simp
  | x :: A, B, h => by
    have h2 : (A ++ (B ++ [x])).Nodup := by
      rw [← List.append_assoc]
      exact (List.perm_append_singleton x (A ++ B)).nodup_iff.2 (by simpa using h)
    have := rot_all F h1 A (B ++ [x]) h2
    have h3 := h1 x (A ++ B) (by simpa using h)
    simp only [List.append_assoc, List.cons_append, List.nil_append] at this h3 ⊢
    exact this.trans h3
theorem nxt_rot (A B : List Int) (hn : (A ++ B).Nodup) (j : Int) : nxt (B ++ A) j = nxt (A ++ B) j := rot_all (fun l => nxt l j) (fun x T h => nxt_rot1 x T h j) A B hn
theorem prv_rot (A B : List Int) (hn : (A ++ B).Nodup) (j : Int) : prv (B ++ A) j = prv (A ++ B) j := rot_all (fun l => prv l j) (fun x T h => prv_rot1 x T h j) A B hn
theorem frm_rot (A B : List Int) (hn : (A ++ B).Nodup) (j : Int) : frm (B ++ A) j = frm (A ++ B) j := rot_all (fun l => frm l j) (fun x T h => frm_rot1 x T h j) A B hn
theorem nxt_get {L : List Int} (hn : L.Nodup) {k : Nat} {j : Int} (h : L[k]? = some j) : (k + 1 < L.length ∧ L[k + 1]? = some (nxt L j)) ∨ (k + 1 = L.length ∧ L[0]? = some (nxt L j)) := by
  have hk := (List.getElem?_eq_some_iff.1 h).1
  rw [nxt_at hn h]
  by_cases hl : k + 1 < L.length
  · left
    rw [Nat.mod_eq_of_lt hl]
    exact ⟨hl, by simp [hl]⟩
  · right
    have e : k + 1 = L.length := by omega
    rw [e, Nat.mod_self]
    exact ⟨rfl, by simp [show 0 < L.length by omega]⟩
theorem prv_get {L : List Int} (hn : L.Nodup) {k : Nat} {j : Int} (h : L[k]? = some j) : (∃ m, k = m + 1 ∧ L[m]? = some (prv L j)) ∨ (k = 0 ∧ L[L.length - 1]? = some (prv L j)) := by
  have hk := (List.getElem?_eq_some_iff.1 h).1
  rw [prv_at hn h]
  cases k with
  | zero =>
    right
    have e : (0 + L.length - 1) % L.length = L.length - 1 := by rw [Nat.zero_add]; exact Nat.mod_eq_of_lt (by omega)
    rw [e]
    exact ⟨rfl, by simp [show L.length - 1 < L.length by omega]⟩
  | succ m =>
    left
    have e : (m + 1 + L.length - 1) % L.length = m := by
      rw [show m + 1 + L.length - 1 = m + L.length by omega, Nat.add_mod_right]
      exact Nat.mod_eq_of_lt (by omega)
    rw [e]
    exact ⟨m, rfl, by simp [show m < L.length by omega]⟩
theorem nxt_mem {L : List Int} (hn : L.Nodup) {j : Int} (h : j ∈ L) : nxt L j ∈ L := by
  obtain ⟨k, hk, _⟩ := mem_at h
  rcases nxt_get hn hk with ⟨_, h⟩ | ⟨_, h⟩ <;> exact List.mem_of_getElem? h
theorem prv_mem {L : List Int} (hn : L.Nodup) {j : Int} (h : j ∈ L) : prv L j ∈ L := by
  obtain ⟨k, hk, _⟩ := mem_at h
  rcases prv_get hn hk with ⟨_, _, h⟩ | ⟨_, h⟩ <;> exact List.mem_of_getElem? h
/-- the one ahead of the one behind -/
theorem prv_nxt {L : List Int} (hn : L.Nodup) {j : Int} (h : j ∈ L) : prv L (nxt L j) = j := by
  obtain ⟨k, hk, hl⟩ := mem_at h
  rcases nxt_get hn hk with ⟨h1, h2⟩ | ⟨h1, h2⟩
  · rcases prv_get hn h2 with ⟨m, e, h3⟩ | ⟨e, _⟩
    · obtain rfl : m = k := by omega
      rw [hk] at h3; exact (Option.some.inj h3).symm
    · omega
  · rcases prv_get hn h2 with ⟨m, e, h3⟩ | ⟨e, h3⟩
    · omega
    · rw [show L.length - 1 = k by omega, hk] at h3; exact (Option.some.inj h3).symm
theorem nxt_prv {L : List Int} (hn : L.Nodup) {j : Int} (h : j ∈ L) : nxt L (prv L j) = j := by
  obtain ⟨k, hk, hl⟩ := mem_at h
  rcases prv_get hn hk with ⟨m, e, h2⟩ | ⟨e, h2⟩
  · rcases nxt_get hn h2 with ⟨_, h3⟩ | ⟨e', _⟩
    · rw [← e, hk] at h3; exact (Option.some.inj h3).symm
    · omega
  · rcases nxt_get hn h2 with ⟨e', _⟩ | ⟨_, h3⟩
    · omega
    · rw [← e, hk] at h3; exact (Option.some.inj h3).symm
/-- one that is in, and what goes round from it -/
theorem split_at {L : List Int} (hn : L.Nodup) {i : Int} (h : i ∈ L) : ∃ A B, L = A ++ i :: B ∧ i ∉ A ∧ A.length = L.idxOf i := by
  have hk := List.idxOf_lt_length_of_mem h
  refine ⟨L.take (L.idxOf i), L.drop (L.idxOf i + 1), ?_, ?_, ?_⟩
  · conv => lhs; rw [← List.take_append_drop (L.idxOf i) L]
    rw [List.drop_eq_getElem_cons hk, List.getElem_idxOf]
  · intro hm
    obtain ⟨m, h1, h2⟩ := mem_at hm
    rw [List.length_take] at h2
    rw [List.getElem?_take_of_lt (by omega)] at h1
    have := idxOf_at hn h1
    omega
  · rw [List.length_take]; omega
theorem nd_rot {A B : List Int} (hn : (A ++ B).Nodup) : (B ++ A).Nodup := (List.perm_append_comm (l₁ := A) (l₂ := B)).nodup_iff.1 hn
/-- a ring, and the same turned so that i is first -/
theorem turned {L : List Int} (hn : L.Nodup) {i : Int} (h : i ∈ L) : ∃ C, (i :: C).Nodup ∧ C.length + 1 = L.length ∧ (∀ j, j ∈ L ↔ j = i ∨ j ∈ C) ∧ (∀ j, nxt L j = nxt (i :: C) j) ∧ (∀ j, prv L j = prv (i :: C) j) ∧ (∀ j, frm L j = frm (i :: C) j) ∧
    (outL L i).Nodup ∧ (outL L i).length = C.length ∧ (∀ j, j ∈ outL L i ↔ j ∈ C) ∧ (∀ j, nxt (outL L i) j = nxt C j) ∧ (∀ j, prv (outL L i) j = prv C j) ∧ (∀ j, frm (outL L i) j = frm C j) := by
  obtain ⟨A, B, e, hA, hl⟩ := split_at hn h
  have eo : outL L i = A ++ B := by
    unfold outL
    rw [if_pos h, ← hl]
    conv => lhs; rw [e]
    simp
  subst e
  have n1 : (i :: B ++ A).Nodup := nd_rot hn
  have n2 : (A ++ B).Nodup := by
    have : (B ++ A).Nodup := (List.nodup_cons.1 n1).2
    exact nd_rot this
  rw [eo]
  refine ⟨B ++ A, n1, by simp; omega, fun j => ?_, fun j => (nxt_rot A (i :: B) hn j).symm, fun j => (prv_rot A (i :: B) hn j).symm, fun j => (frm_rot A (i :: B) hn j).symm, n2, by simp; omega, fun j => ?_, fun j => (nxt_rot A B n2 j).symm, fun j => (prv_rot A B n2 j).symm, fun j => (frm_rot A B n2 j).symm⟩
  · simp only [List.mem_append, List.mem_cons]; constructor <;> (intro h; rcases h with h | h | h <;> simp [h])
  · simp only [List.mem_append]; exact or_comm
theorem nxt_cut {i : Int} {C : List Int} (hn : (i :: C).Nodup) {j : Int} (hj : j ∈ C) : nxt C j = if nxt (i :: C) j = i then nxt (i :: C) i else nxt (i :: C) j := by
  have hC := (List.nodup_cons.1 hn).2
  have hi := (List.nodup_cons.1 hn).1
  obtain ⟨m, hm, hl⟩ := mem_at hj
  have hm' : (i :: C)[m + 1]? = some j := by simpa using hm
  have h0 : (i :: C)[0]? = some i := rfl
  rcases nxt_get hC hm with ⟨h1, h2⟩ | ⟨h1, h2⟩
  · rcases nxt_get hn hm' with ⟨_, h3⟩ | ⟨h3, _⟩
    · simp only [List.getElem?_cons_succ] at h3
      rw [h2] at h3
      have e := Option.some.inj h3
      rw [← e, if_neg]
      intro e2; rw [e2] at h2; exact hi (List.mem_of_getElem? h2)
    · simp at h3; omega
  · rcases nxt_get hn hm' with ⟨h3, _⟩ | ⟨_, h3⟩
    · simp at h3; omega
    · rw [h0] at h3
      rw [if_pos (Option.some.inj h3).symm]
      rcases nxt_get hn h0 with ⟨_, h4⟩ | ⟨h4, _⟩
      · simp only [List.getElem?_cons_succ] at h4
        rw [h2] at h4; exact Option.some.inj h4
      · simp at h4; rw [h4] at hl; simp at hl
theorem prv_cut {i : Int} {C : List Int} (hn : (i :: C).Nodup) {j : Int} (hj : j ∈ C) : prv C j = if prv (i :: C) j = i then prv (i :: C) i else prv (i :: C) j := by
  have hC := (List.nodup_cons.1 hn).2
  have hi := (List.nodup_cons.1 hn).1
  obtain ⟨m, hm, hl⟩ := mem_at hj
  have hm' : (i :: C)[m + 1]? = some j := by simpa using hm
  have h0 : (i :: C)[0]? = some i := rfl
  rcases prv_get hn hm' with ⟨q, e, h3⟩ | ⟨e, _⟩
  · obtain rfl : q = m := by omega
    cases q with
    | zero =>
      rw [h0] at h3
      rw [if_pos (Option.some.inj h3).symm]
      rcases prv_get hC hm with ⟨q, e, _⟩ | ⟨_, h2⟩
      · omega
      · rcases prv_get hn h0 with ⟨q, e, _⟩ | ⟨_, h4⟩
        · omega
        · obtain ⟨c, hc⟩ : ∃ c, C.length = c + 1 := ⟨C.length - 1, by omega⟩
          simp only [List.length_cons, hc, Nat.add_sub_cancel, List.getElem?_cons_succ] at h4 h2
          rw [h2] at h4; exact Option.some.inj h4
    | succ q =>
      simp only [List.getElem?_cons_succ] at h3
      rcases prv_get hC hm with ⟨r, e, h2⟩ | ⟨e, _⟩
      · obtain rfl : r = q := by omega
        rw [h2] at h3
        have e := Option.some.inj h3
        rw [← e, if_neg]
        intro e2; rw [e2] at h2; exact hi (List.mem_of_getElem? h2)
      · omega
  · omega
/-- what is behind, and ahead, when one is taken out -/
theorem nxt_outL {L : List Int} (hn : L.Nodup) {i j : Int} (hi : i ∈ L) (hj : j ∈ L) (hne : j ≠ i) : nxt (outL L i) j = if nxt L j = i then nxt L i else nxt L j := by
  obtain ⟨C, h1, _, h3, h4, _, _, _, _, _, h9, _, _⟩ := turned hn hi
  rw [h9, h4, h4]
  exact nxt_cut h1 (((h3 j).1 hj).resolve_left hne)
theorem prv_outL {L : List Int} (hn : L.Nodup) {i j : Int} (hi : i ∈ L) (hj : j ∈ L) (hne : j ≠ i) : prv (outL L i) j = if prv L j = i then prv L i else prv L j := by
  obtain ⟨C, h1, _, h3, _, h5, _, _, _, _, _, h10, _⟩ := turned hn hi
  rw [h10, h5, h5]
  exact prv_cut h1 (((h3 j).1 hj).resolve_left hne)
theorem mem_outL {L : List Int} (hn : L.Nodup) {i : Int} (hi : i ∈ L) (j : Int) : j ∈ outL L i ↔ j ∈ L ∧ j ≠ i := by
  obtain ⟨C, h1, _, h3, _, _, _, _, _, h8, _⟩ := turned hn hi
  have hiC := (List.nodup_cons.1 h1).1
  rw [h8, h3]
  constructor
  · intro h; exact ⟨Or.inr h, fun e => hiC (e ▸ h)⟩
  · rintro ⟨h | h, hne⟩
    · exact absurd h hne
    · exact h
theorem nd_outL {L : List Int} (hn : L.Nodup) (i : Int) : (outL L i).Nodup := by
  by_cases hi : i ∈ L
  · obtain ⟨C, _, _, _, _, _, _, h, _⟩ := turned hn hi; exact h
  · simpa [outL, hi] using hn
theorem len_outL {L : List Int} (hn : L.Nodup) {i : Int} (hi : i ∈ L) : (outL L i).length + 1 = L.length := by
  obtain ⟨C, _, h2, _, _, _, _, _, h, _⟩ := turned hn hi; omega
/-- one that is put in: where it stands, and that it is taken out again -/
theorem inL_facts {L : List Int} (hn : L.Nodup) {i a : Int} (hi : i ∉ L) (ha : a ∈ L) : (inL L i a).Nodup ∧ i ∈ inL L i a ∧ outL (inL L i a) i = L ∧ nxt (inL L i a) i = a ∧ (inL L i a).length = L.length + 1 := by
  obtain ⟨A, B, e, hA, hl⟩ := split_at hn ha
  have em : inL L i a = A ++ i :: (a :: B) := by
    unfold inL
    rw [if_pos ha, ← hl]
    conv => lhs; rw [e]
    simp
  rw [em]
  have n1 : (A ++ i :: (a :: B)).Nodup := by
    have : (i :: (A ++ a :: B)).Nodup := List.nodup_cons.2 ⟨e ▸ hi, e ▸ hn⟩
    exact (List.perm_middle (a := i) (l₁ := A) (l₂ := a :: B)).nodup_iff.2 this
  have hm : i ∈ A ++ i :: (a :: B) := by simp
  have hg : (A ++ i :: (a :: B))[A.length]? = some i := by simp
  refine ⟨n1, hm, ?_, ?_, by rw [e]; simp; omega⟩
  · unfold outL
    rw [if_pos hm, idxOf_at n1 hg, e]
    simp
  · rcases nxt_get n1 hg with ⟨_, h2⟩ | ⟨h1, _⟩
    · have : (A ++ i :: (a :: B))[A.length + 1]? = some a := by rw [List.getElem?_append_right (by omega)]; simp
      rw [this] at h2; exact (Option.some.inj h2).symm
    · simp at h1
theorem mem_inL {L : List Int} (hn : L.Nodup) {i a : Int} (hi : i ∉ L) (ha : a ∈ L) (j : Int) : j ∈ inL L i a ↔ j = i ∨ j ∈ L := by
  obtain ⟨n1, hm, ho, _, _⟩ := inL_facts hn hi ha
  have h := mem_outL n1 hm j
  rw [ho] at h
  constructor
  · intro hj
    by_cases e : j = i
    · exact Or.inl e
    · exact Or.inr (h.2 ⟨hj, e⟩)
  · rintro (rfl | hj)
    · exact hm
    · exact (h.1 hj).1
theorem nxt_inL {L : List Int} (hn : L.Nodup) {i a j : Int} (hi : i ∉ L) (ha : a ∈ L) (hj : j ∈ L) : nxt (inL L i a) j = if nxt L j = a then i else nxt L j := by
  obtain ⟨n1, hm, ho, hx, _⟩ := inL_facts hn hi ha
  have hne : j ≠ i := fun e => hi (e ▸ hj)
  have hjm := (mem_inL hn hi ha j).2 (Or.inr hj)
  have h := nxt_outL n1 hm hjm hne
  rw [ho, hx] at h
  by_cases c : nxt (inL L i a) j = i
  · rw [if_pos c] at h; rw [if_pos h, c]
  · rw [if_neg c] at h
    rw [h, if_neg]
    intro e
    have h1 := prv_nxt n1 hjm
    have h2 := prv_nxt n1 hm
    rw [e] at h1; rw [hx, h1] at h2; exact hne h2
theorem prv_inL {L : List Int} (hn : L.Nodup) {i a : Int} (hi : i ∉ L) (ha : a ∈ L) : prv (inL L i a) i = prv L a ∧ ∀ j, j ∈ L → prv (inL L i a) j = if j = a then i else prv L j := by
  obtain ⟨n1, hm, ho, hx, _⟩ := inL_facts hn hi ha
  have hpa : prv (inL L i a) a = i := by have := prv_nxt n1 hm; rwa [hx] at this
  have key : ∀ j, j ∈ L → prv L j = if prv (inL L i a) j = i then prv (inL L i a) i else prv (inL L i a) j := fun j hj => by
    have h := prv_outL n1 hm ((mem_inL hn hi ha j).2 (Or.inr hj)) (fun e => hi (e ▸ hj))
    rwa [ho] at h
  refine ⟨?_, fun j hj => ?_⟩
  · have := key a ha; rw [if_pos hpa] at this; exact this.symm
  · by_cases c : j = a
    · rw [if_pos c, c, hpa]
    · rw [if_neg c, key j hj, if_neg]
      intro e
      have := nxt_prv n1 ((mem_inL hn hi ha j).2 (Or.inr hj))
      rw [e, hx] at this; exact c this.symm
end Wd
end Go.Proofs.YteiejjmhmmkdhaaGreat

/- The package's ring, in a seat without the document's own: how it lies in memory. -/
namespace Go.Proofs.YteiejjmhmmkdhaaGreat
set_option maxRecDepth 20000
open Go.RowKit
set_option linter.unusedVariables false
namespace Wd
def upd (f : Nat → Int) (a : Nat) (b : Int) : Nat → Int := fun k => if k = a then b else f k
theorem upd_same (f : Nat → Int) (a : Nat) (b : Int) : upd f a b a = b := if_pos rfl
theorem upd_ne (f : Nat → Int) {a k : Nat} (b : Int) (h : k ≠ a) : upd f a b k = f k := if_neg h
/-- may it be put in -/
def putOk (n : Nat) (L : List Int) (i a : Int) : Bool := decide (0 ≤ i ∧ i < n ∧ i ∉ L ∧ (a ∈ L ∨ (a = -1 ∧ L = [])))
/-- a ring of n places at block p: the row of those behind at g1, the row of those ahead at g2; m are in -/
structure RB (w : World) (p g1 g2 n : Nat) (f h : Nat → Int) (m : Int) : Prop where
  c0 : w.cell? ⟨p, 0, none⟩ = some (.slice (some ⟨g1, 0, none⟩) n n)
  c1 : w.cell? ⟨p, 1, none⟩ = some (.slice (some ⟨g2, 0, none⟩) n n)
  c2 : w.cell? ⟨p, 2, none⟩ = some (.int .i64 m)
  z0 : w.frozen? ⟨p, 2, none⟩ = false
  f1 : ∀ k, k < n → w.cell? ⟨g1, k, none⟩ = some (.int .i64 (f k))
  f2 : ∀ k, k < n → w.cell? ⟨g2, k, none⟩ = some (.int .i64 (h k))
  z1 : ∀ k, w.frozen? ⟨g1, k, none⟩ = false
  z2 : ∀ k, w.frozen? ⟨g2, k, none⟩ = false
  e1 : p ≠ g1
  e2 : p ≠ g2
  e3 : g1 ≠ g2
def FF (p g1 g2 : Nat) : Nat → Prop := fun k => k = p ∨ k = g1 ∨ k = g2
theorem RB.same {w w' : World} {p g1 g2 n : Nat} {f h : Nat → Int} {m : Int} (r : RB w p g1 g2 n f h m) (hb : ∀ k, FF p g1 g2 k → w'.heap[k]? = w.heap[k]?) : RB w' p g1 g2 n f h m := by
  have hp := hb p (Or.inl rfl)
  have h1 := hb g1 (Or.inr (Or.inl rfl))
  have h2 := hb g2 (Or.inr (Or.inr rfl))
  exact ⟨(World.cell?_of_block (a := ⟨p, 0, none⟩) hp).trans r.c0, (World.cell?_of_block (a := ⟨p, 1, none⟩) hp).trans r.c1, (World.cell?_of_block (a := ⟨p, 2, none⟩) hp).trans r.c2,
    (World.frozen?_of_block (a := ⟨p, 2, none⟩) hp).trans r.z0, fun k hk => (World.cell?_of_block (a := ⟨g1, k, none⟩) h1).trans (r.f1 k hk), fun k hk => (World.cell?_of_block (a := ⟨g2, k, none⟩) h2).trans (r.f2 k hk),
    fun k => (World.frozen?_of_block (a := ⟨g1, k, none⟩) h1).trans (r.z1 k), fun k => (World.frozen?_of_block (a := ⟨g2, k, none⟩) h2).trans (r.z2 k), r.e1, r.e2, r.e3⟩
theorem RB.set1 {w : World} {p g1 g2 n : Nat} {f h : Nat → Int} {m : Int} (r : RB w p g1 g2 n f h m) {a : Nat} (ha : a < n) (b : Int) : RB (w.setCell ⟨g1, a, none⟩ (.int .i64 b)) p g1 g2 n (upd f a b) h m := by
  have e1 := r.e1; have e3 := r.e3
  refine ⟨(World.cell?_setCell_far _ _ _ _ e1.symm).trans r.c0, (World.cell?_setCell_far _ _ _ _ e1.symm).trans r.c1, (World.cell?_setCell_far _ _ _ _ e1.symm).trans r.c2, by rw [World.frozen?_setCell]; exact r.z0, fun k hk => ?_,
    fun k hk => (World.cell?_setCell_far _ _ _ _ e3).trans (r.f2 k hk), fun k => by rw [World.frozen?_setCell]; exact r.z1 k, fun k => by rw [World.frozen?_setCell]; exact r.z2 k, r.e1, r.e2, r.e3⟩
  by_cases c : k = a
  · subst c; rw [upd_same]; exact World.cell?_setCell_same _ _ _ (r.f1 k hk)
  · rw [upd_ne _ _ c]; exact (World.cell?_setCell_other _ _ _ _ (by intro e; cases e; exact c rfl)).trans (r.f1 k hk)
theorem RB.set2 {w : World} {p g1 g2 n : Nat} {f h : Nat → Int} {m : Int} (r : RB w p g1 g2 n f h m) {a : Nat} (ha : a < n) (b : Int) : RB (w.setCell ⟨g2, a, none⟩ (.int .i64 b)) p g1 g2 n f (upd h a b) m := by
  have e2 := r.e2; have e3 := r.e3
  refine ⟨(World.cell?_setCell_far _ _ _ _ e2.symm).trans r.c0, (World.cell?_setCell_far _ _ _ _ e2.symm).trans r.c1, (World.cell?_setCell_far _ _ _ _ e2.symm).trans r.c2, by rw [World.frozen?_setCell]; exact r.z0,
    fun k hk => (World.cell?_setCell_far _ _ _ _ e3.symm).trans (r.f1 k hk), fun k hk => ?_, fun k => by rw [World.frozen?_setCell]; exact r.z1 k, fun k => by rw [World.frozen?_setCell]; exact r.z2 k, r.e1, r.e2, r.e3⟩
  by_cases c : k = a
  · subst c; rw [upd_same]; exact World.cell?_setCell_same _ _ _ (r.f2 k hk)
  · rw [upd_ne _ _ c]; exact (World.cell?_setCell_other _ _ _ _ (by intro e; cases e; exact c rfl)).trans (r.f2 k hk)
theorem RB.set3 {w : World} {p g1 g2 n : Nat} {f h : Nat → Int} {m : Int} (r : RB w p g1 g2 n f h m) (b : Int) : RB (w.setCell ⟨p, 2, none⟩ (.int .i64 b)) p g1 g2 n f h b := by
  have e1 := r.e1; have e2 := r.e2
  exact ⟨(World.cell?_setCell_other _ _ _ _ (by simp)).trans r.c0, (World.cell?_setCell_other _ _ _ _ (by simp)).trans r.c1, World.cell?_setCell_same _ _ _ r.c2, by rw [World.frozen?_setCell]; exact r.z0,
    fun k hk => (World.cell?_setCell_far _ _ _ _ e1).trans (r.f1 k hk), fun k hk => (World.cell?_setCell_far _ _ _ _ e2).trans (r.f2 k hk), fun k => by rw [World.frozen?_setCell]; exact r.z1 k, fun k => by rw [World.frozen?_setCell]; exact r.z2 k, r.e1, r.e2, r.e3⟩
theorem RB.lt {w : World} {p g1 g2 n : Nat} {f h : Nat → Int} {m : Int} (r : RB w p g1 g2 n f h m) (hn : 0 < n) : ∀ k, FF p g1 g2 k → k < w.heap.size := by
  rintro k (rfl | rfl | rfl)
  · exact World.block_lt_of_cell? w _ r.c0
  · exact World.block_lt_of_cell? w _ (r.f1 0 hn)
  · exact World.block_lt_of_cell? w _ (r.f2 0 hn)
theorem RB.drew {w : World} {p g1 g2 n : Nat} {f h : Nat → Int} {m : Int} (r : RB w p g1 g2 n f h m) : RB w.drew p g1 g2 n f h m := r.same (fun _ _ => rfl)
/-- has -/
theorem has_c (i : Int) (p g1 g2 n : Nat) (f h : Nat → Int) (m : Int) (w : World) (r : RB w p g1 g2 n f h m) :
    Calls Tryz.prog 168 #[.pointer (some ⟨p, 0, none⟩), .int .i64 i] w fun e w' => e = .returned (.bool (decide (0 ≤ i ∧ i < n))) ∧ w' = w := by
  have c0 := r.c0
  replace r := Lib.hid r
  by_cases h0 : 0 ≤ i
  · by_cases h1 : i < n
    · have e : decide (0 ≤ i ∧ i < n) = true := by simp; omega
      rw [e]; clear e
      have h0' : decide (0 ≤ i) = true := by simpa using h0
      have h0'' : decide (i ≥ 0) = true := by simpa using h0
      have h1' : decide (i < (n : Int)) = true := by simpa using h1
      go_enter Tryz.func168, Tryz.ntmps168
      go_wp2
      go_ret
      exact ⟨by simp, rfl⟩
    · have e : decide (0 ≤ i ∧ i < n) = false := by simp; omega
      rw [e]; clear e
      have h0' : decide (0 ≤ i) = true := by simpa using h0
      have h0'' : decide (i ≥ 0) = true := by simpa using h0
      have h1' : decide (i < (n : Int)) = false := by simpa using h1
      go_enter Tryz.func168, Tryz.ntmps168
      go_wp2
      go_ret
      exact ⟨by simp, rfl⟩
  · have e : decide (0 ≤ i ∧ i < n) = false := by simp; omega
    rw [e]; clear e
    have h0' : decide (0 ≤ i) = false := by simpa using h0
    have h0'' : decide (i ≥ 0) = false := by simpa using h0
    go_enter Tryz.func168, Tryz.ntmps168
    go_wp2
    go_ret
    exact ⟨by simp, rfl⟩
/-- link -/
theorem link_c (a b : Nat) (p g1 g2 n : Nat) (f h : Nat → Int) (m : Int) (w : World) (r : RB w p g1 g2 n f h m) (ha : a < n) (hb : b < n) :
    Calls Tryz.prog 87 #[.pointer (some ⟨p, 0, none⟩), .int .i64 a, .int .i64 b] w fun e w' => e = .returned (.tuple #[]) ∧ RB w' p g1 g2 n (upd f a b) (upd h b a) m ∧ Ch9 (FF p g1 g2) w w' := by
  have c0 := r.c0
  have c1 := r.c1
  have ca := r.f1 a ha
  have cb := r.f2 b hb
  have za := r.z1 a
  have zb := r.z2 b
  have e1 := r.e1
  have e2 := r.e2
  have e3 := r.e3
  have x1 := Ne.symm e1
  have x2 := Ne.symm e2
  have x3 := Ne.symm e3
  replace r := Lib.hid r
  go_enter Tryz.func87, Tryz.ntmps87
  go_wp2
  go_end0
  exact ⟨rfl, (r.out.set1 ha b).set2 hb a, ((Ch9.refl _ _).set _ (Or.inr (Or.inl rfl)) _).set _ (Or.inr (Or.inr rfl)) _⟩
end Wd
end Go.Proofs.YteiejjmhmmkdhaaGreat

/- The ring of the package: what its functions return; its lists. -/
namespace Go.Proofs.YteiejjmhmmkdhaaGreat
set_option maxRecDepth 20000
open Go.RowKit
set_option linter.unusedVariables false
namespace Wd
theorem has_y {k p g1 g2 n : Nat} {f h : Nat → Int} {m : Int} {w : World} (r : RB w p g1 g2 n f h m) (hk : k < n) :
    Calls Tryz.prog 168 #[.pointer (some ⟨p, 0, none⟩), .int .i64 (k : Int)] w fun e w' => e = .returned (.bool true) ∧ w' = w := by
  refine (has_c k p g1 g2 n f h m w r).mono ?_
  rintro e w' ⟨rfl, rfl⟩
  exact ⟨by rw [decide_eq_true (by omega)], rfl⟩
theorem has_n {i : Int} {p g1 g2 n : Nat} {f h : Nat → Int} {m : Int} {w : World} (r : RB w p g1 g2 n f h m) (hi : ¬ (0 ≤ i ∧ i < n)) :
    Calls Tryz.prog 168 #[.pointer (some ⟨p, 0, none⟩), .int .i64 i] w fun e w' => e = .returned (.bool false) ∧ w' = w := by
  refine (has_c i p g1 g2 n f h m w r).mono ?_
  rintro e w' ⟨rfl, rfl⟩
  exact ⟨by rw [decide_eq_false hi], rfl⟩
/-- the lists that the two rows hold -/
structure RL (n : Nat) (L : List Int) (f h : Nat → Int) : Prop where
  n1 : 1 ≤ n
  n2 : n ≤ 4096
  nd : L.Nodup
  bd : ∀ x, x ∈ L → 0 ≤ x ∧ x < n
  ef : ∀ k : Nat, k < n → f k = nxt L k
  eh : ∀ k : Nat, k < n → h k = prv L k
theorem RL.none {n : Nat} {L : List Int} {f h : Nat → Int} (r : RL n L f h) {i : Int} (hi : ¬ (0 ≤ i ∧ i < n)) : i ∉ L := fun h => hi (r.bd i h)
theorem RL.mem {n : Nat} {L : List Int} {f h : Nat → Int} (r : RL n L f h) {i : Int} (hi : i ∈ L) : ∃ k : Nat, i = k ∧ k < n := by
  obtain ⟨a, b⟩ := r.bd i hi
  exact ⟨i.toNat, by omega, by omega⟩
theorem RL.nxt_bd {n : Nat} {L : List Int} {f h : Nat → Int} (r : RL n L f h) {k : Nat} (hk : (k : Int) ∈ L) : ∃ q : Nat, nxt L k = q ∧ q < n ∧ (q : Int) ∈ L := by
  have := nxt_mem r.nd hk
  obtain ⟨q, e, hq⟩ := r.mem this
  exact ⟨q, e, hq, e ▸ this⟩
theorem RL.prv_bd {n : Nat} {L : List Int} {f h : Nat → Int} (r : RL n L f h) {k : Nat} (hk : (k : Int) ∈ L) : ∃ q : Nat, prv L k = q ∧ q < n ∧ (q : Int) ∈ L := by
  have := prv_mem r.nd hk
  obtain ⟨q, e, hq⟩ := r.mem this
  exact ⟨q, e, hq, e ▸ this⟩
/-- the count is below 4097 -/
theorem RL.len {n : Nat} {L : List Int} {f h : Nat → Int} (r : RL n L f h) : L.length ≤ n := by
  have hs : L.length ≤ (rng n).length := by
    refine r.nd.length_le_of_subset (fun x hx => ?_)
    obtain ⟨a, b⟩ := r.bd x hx
    exact List.mem_map.2 ⟨x.toNat, by simp; omega, by omega⟩
  rwa [rng_len] at hs
theorem RL.in_iff {n : Nat} {L : List Int} {f h : Nat → Int} (r : RL n L f h) {k : Nat} (hk : k < n) : f k = -1 ↔ (k : Int) ∉ L := by
  rw [r.ef k hk]
  constructor
  · intro e hm
    have := (r.bd _ (nxt_mem r.nd hm)).1
    omega
  · exact nxt_out
/-- one is taken out -/
theorem RL.out {n : Nat} {L : List Int} {f h : Nat → Int} (r : RL n L f h) {k a b : Nat} (hk : (k : Int) ∈ L) (ea : prv L k = a) (eb : nxt L k = b) :
    RL n (outL L k) (upd (upd f a b) k (-1)) (upd (upd h b a) k (-1)) := by
  refine ⟨r.n1, r.n2, nd_outL r.nd _, fun x hx => r.bd x ((mem_outL r.nd hk x).1 hx).1, fun j hj => ?_, fun j hj => ?_⟩
  · by_cases c : j = k
    · subst c; rw [upd_same, nxt_out]; exact fun hm => ((mem_outL r.nd hk _).1 hm).2 rfl
    · rw [upd_ne _ _ c]
      have hne : (j : Int) ≠ k := by omega
      by_cases hL : (j : Int) ∈ L
      · rw [nxt_outL r.nd hk hL hne]
        by_cases ca : j = a
        · subst ca
          rw [upd_same, if_pos (by rw [← ea, nxt_prv r.nd hk]), eb]
        · rw [upd_ne _ _ ca, r.ef j hj, if_neg]
          intro e
          have := prv_nxt r.nd hL
          rw [e, ea] at this
          omega
      · rw [nxt_out (fun hm => hL ((mem_outL r.nd hk _).1 hm).1)]
        have ca : j ≠ a := by
          rintro rfl
          exact hL (ea ▸ prv_mem r.nd hk)
        rw [upd_ne _ _ ca, r.ef j hj, nxt_out hL]
  · by_cases c : j = k
    · subst c; rw [upd_same, prv_out]; exact fun hm => ((mem_outL r.nd hk _).1 hm).2 rfl
    · rw [upd_ne _ _ c]
      have hne : (j : Int) ≠ k := by omega
      by_cases hL : (j : Int) ∈ L
      · rw [prv_outL r.nd hk hL hne]
        by_cases ca : j = b
        · subst ca
          rw [upd_same, if_pos (by rw [← eb, prv_nxt r.nd hk]), ea]
        · rw [upd_ne _ _ ca, r.eh j hj, if_neg]
          intro e
          have := nxt_prv r.nd hL
          rw [e, eb] at this
          omega
      · rw [prv_out (fun hm => hL ((mem_outL r.nd hk _).1 hm).1)]
        have ca : j ≠ b := by
          rintro rfl
          exact hL (eb ▸ nxt_mem r.nd hk)
        rw [upd_ne _ _ ca, r.eh j hj, prv_out hL]
/-- one is put in ahead of another -/
theorem RL.put {n : Nat} {L : List Int} {f h : Nat → Int} (r : RL n L f h) {k a b : Nat} (hn : k < n) (hk : (k : Int) ∉ L) (ha : (a : Int) ∈ L) (eb : prv L a = b) :
    RL n (inL L k a) (upd (upd f b k) k a) (upd (upd h k b) a k) := by
  obtain ⟨d1, d2, d3, d4, d5⟩ := inL_facts r.nd hk ha
  obtain ⟨p1, p2⟩ := prv_inL r.nd hk ha
  refine ⟨r.n1, r.n2, d1, fun x hx => ?_, fun j hj => ?_, fun j hj => ?_⟩
  · rcases (mem_inL r.nd hk ha x).1 hx with rfl | hx
    · omega
    · exact r.bd x hx
  · by_cases c : j = k
    · subst c; rw [upd_same, d4]
    · rw [upd_ne _ _ c]
      by_cases hL : (j : Int) ∈ L
      · rw [nxt_inL r.nd hk ha hL]
        by_cases cb : j = b
        · subst cb
          rw [upd_same, if_pos (by rw [← eb, nxt_prv r.nd ha])]
        · rw [upd_ne _ _ cb, r.ef j hj, if_neg]
          intro e
          have := prv_nxt r.nd hL
          rw [e, eb] at this
          omega
      · have hn' : (j : Int) ∉ inL L k a := by
          intro hm
          rcases (mem_inL r.nd hk ha _).1 hm with e | e
          · omega
          · exact hL e
        have cb : j ≠ b := by
          rintro rfl
          exact hL (eb ▸ prv_mem r.nd ha)
        rw [nxt_out hn', upd_ne _ _ cb, r.ef j hj, nxt_out hL]
  · by_cases ca : j = a
    · subst ca; rw [upd_same, p2 _ ha, if_pos rfl]
    · rw [upd_ne _ _ ca]
      by_cases c : j = k
      · subst c; rw [upd_same, p1, eb]
      · rw [upd_ne _ _ c, r.eh j hj]
        by_cases hL : (j : Int) ∈ L
        · rw [p2 _ hL, if_neg (by omega)]
        · have hn' : (j : Int) ∉ inL L k a := by
            intro hm
            rcases (mem_inL r.nd hk ha _).1 hm with e | e
            · omega
            · exact hL e
          rw [prv_out hn', prv_out hL]
/-- the first one is put in -/
theorem RL.first {n : Nat} {f h : Nat → Int} (r : RL n [] f h) {k : Nat} (hn : k < n) (a : Int) : RL n (inL [] k a) (upd f k k) (upd h k k) := by
  have e : inL [] (k : Int) a = [(k : Int)] := by simp [inL]
  rw [e]
  refine ⟨r.n1, r.n2, by simp, fun x hx => by simp at hx; omega, fun j hj => ?_, fun j hj => ?_⟩
  · by_cases c : j = k
    · subst c; rw [upd_same]; simp [nxt]
    · rw [upd_ne _ _ c, r.ef j hj, nxt_out (by simp), nxt_out (by simp; omega)]
  · by_cases c : j = k
    · subst c; rw [upd_same]; simp [prv]
    · rw [upd_ne _ _ c, r.eh j hj, prv_out (by simp), prv_out (by simp; omega)]
/-- a ring as it is made -/
theorem RL.made {n : Nat} {f h : Nat → Int} (h1 : 1 ≤ n) (h2 : n ≤ 4096) (hf : ∀ k, k < n → f k = (((k + 1) % n : Nat) : Int) ∧ h ((k + 1) % n) = (k : Int)) : RL n (rng n) f h := by
  have hg : ∀ k : Nat, k < n → (rng n)[k]? = some (k : Int) := fun k hk => by simp [rng, hk]
  refine ⟨h1, h2, rng_nd n, fun x hx => by have := List.mem_map.1 hx; obtain ⟨y, hy, rfl⟩ := this; simp at hy; omega, fun k hk => ?_, fun k hk => ?_⟩
  · rw [(hf k hk).1, nxt_at (rng_nd n) (hg k hk), rng_len, hg _ (Nat.mod_lt _ (by omega))]; rfl
  · rw [prv_at (rng_nd n) (hg k hk), rng_len]
    have hlt : (k + n - 1) % n < n := Nat.mod_lt _ (by omega)
    have := (hf _ hlt).2
    have e : ((k + n - 1) % n + 1) % n = k := by
      by_cases hk0 : k = 0
      · subst hk0
        rw [Nat.mod_eq_of_lt (by omega : 0 + n - 1 < n), show 0 + n - 1 + 1 = n by omega, Nat.mod_self]
      · rw [show k + n - 1 = (k - 1) + n by omega, Nat.add_mod_right, Nat.mod_eq_of_lt (by omega : k - 1 < n), show k - 1 + 1 = k by omega, Nat.mod_eq_of_lt hk]
    rw [e] at this
    rw [this, hg _ hlt]; rfl
end Wd
end Go.Proofs.YteiejjmhmmkdhaaGreat

/- The ring of the package: what its functions return. -/
namespace Go.Proofs.YteiejjmhmmkdhaaGreat
set_option maxRecDepth 20000
open Go.RowKit
set_option linter.unusedVariables false
namespace Wd
/-- the ring of the package: at block p, of n places, those of L are in -/
def RA (w : World) (p n : Nat) (L : List Int) (F : Nat → Prop) : Prop := ∃ g1 g2 f h, F = FF p g1 g2 ∧ RB w p g1 g2 n f h (L.length : Int) ∧ RL n L f h
theorem next_k {w : World} {p n : Nat} {L : List Int} {F : Nat → Prop} (i : Int) (hR : RA w p n L F) :
    Calls Tryz.prog 164 #[.pointer (some ⟨p, 0, none⟩), .int .i64 i] w fun e w' => e = .returned (.int .i64 (nxt L i)) ∧ w' = w := by
  obtain ⟨g1, g2, f, h, rfl, hB, hL⟩ := hR
  by_cases hi : 0 ≤ i ∧ i < n
  · obtain ⟨k, rfl⟩ : ∃ k : Nat, i = k := ⟨i.toNat, by omega⟩
    have hk : k < n := by omega
    rw [← hL.ef k hk]
    have c0 := hB.c0
    have c1 := hB.f1 k hk
    replace hB := Lib.hid hB
    clear hi
    go_enter Tryz.func164, Tryz.ntmps164
    go_wp2_with (first | (go_at_call 168; ((with_reducible refine (has_y hB.out hk).mono ?_); rintro e w' ⟨rfl, rfl⟩)))
    go_ret
    exact ⟨rfl, rfl⟩
  · rw [nxt_out (hL.none hi)]
    replace hB := Lib.hid hB
    go_enter Tryz.func164, Tryz.ntmps164
    go_wp2_with (first | (go_at_call 168; ((with_reducible refine (has_n hB.out hi).mono ?_); rintro e w' ⟨rfl, rfl⟩)))
    go_ret
    exact ⟨rfl, rfl⟩
theorem prev_k {w : World} {p n : Nat} {L : List Int} {F : Nat → Prop} (i : Int) (hR : RA w p n L F) :
    Calls Tryz.prog 169 #[.pointer (some ⟨p, 0, none⟩), .int .i64 i] w fun e w' => e = .returned (.int .i64 (prv L i)) ∧ w' = w := by
  obtain ⟨g1, g2, f, h, rfl, hB, hL⟩ := hR
  by_cases hi : 0 ≤ i ∧ i < n
  · obtain ⟨k, rfl⟩ : ∃ k : Nat, i = k := ⟨i.toNat, by omega⟩
    have hk : k < n := by omega
    rw [← hL.eh k hk]
    have c0 := hB.c1
    have c1 := hB.f2 k hk
    replace hB := Lib.hid hB
    clear hi
    go_enter Tryz.func169, Tryz.ntmps169
    go_wp2_with (first | (go_at_call 168; ((with_reducible refine (has_y hB.out hk).mono ?_); rintro e w' ⟨rfl, rfl⟩)))
    go_ret
    exact ⟨rfl, rfl⟩
  · rw [prv_out (hL.none hi)]
    replace hB := Lib.hid hB
    go_enter Tryz.func169, Tryz.ntmps169
    go_wp2_with (first | (go_at_call 168; ((with_reducible refine (has_n hB.out hi).mono ?_); rintro e w' ⟨rfl, rfl⟩)))
    go_ret
    exact ⟨rfl, rfl⟩
end Wd
end Go.Proofs.YteiejjmhmmkdhaaGreat

/- The ring of the package: one is taken out. -/
namespace Go.Proofs.YteiejjmhmmkdhaaGreat
set_option maxRecDepth 20000
open Go.RowKit
set_option linter.unusedVariables false
namespace Wd
set_option maxHeartbeats 4000000 in
theorem out_y {w : World} {p n g1 g2 k a b : Nat} {L : List Int} {f h : Nat → Int} (hB : RB w p g1 g2 n f h (L.length : Int)) (hL : RL n L f h) (hk : (k : Int) ∈ L) (hn : k < n) (ea : prv L k = a) (eb : nxt L k = b) (ha : a < n) (hb : b < n) :
    Calls Tryz.prog 165 #[.pointer (some ⟨p, 0, none⟩), .int .i64 (k : Int)] w fun e w' => e = .returned (.bool true) ∧ RB w' p g1 g2 n (upd (upd f a b) k (-1)) (upd (upd h b a) k (-1)) (L.length - 1 : Int) ∧ Ch9 (FF p g1 g2) w w' := by
  have hf : f k = b := (hL.ef k hn).trans eb
  have hh : h k = a := (hL.eh k hn).trans ea
  have hne : ((b : Int) == -1) = false := by simp
  have c0 := hB.c0
  have c1 := hB.c1
  have c3 := hB.f1 k hn
  have c4 := hB.f2 k hn
  rw [hf] at c3
  rw [hh] at c4
  have hlen : (L.length : Int) ≤ n := by have := hL.len; omega
  have hlen' : (n : Int) ≤ 4096 := by have := hL.n2; omega
  have hw : IntKind.i64.wrap ((L.length : Int) - 1) = (L.length : Int) - 1 := by rw [IntKind.wrap_i64]; omega
  generalize (L.length : Int) = m at *
  replace hB := Lib.hid hB
  clear hL ea eb hf hh hk hlen hlen'
  go_enter Tryz.func165, Tryz.ntmps165
  go_wp2_with (first | (go_at_call 168; ((with_reducible refine (has_y hB.out hn).mono ?_); rintro e w' ⟨rfl, rfl⟩)))
  go_still_tail 15, (by kernel_rfl)
  change wpList _ _ _ _ _ (World.drew _)
  go_wp2_with (first | (go_at_call 87; ((with_reducible refine (link_c a b p g1 g2 n f h m _ hB.out.drew ha hb).mono ?_); rintro e w1 ⟨rfl, hB1, hC1⟩)))
  clear c0 c1 c3 c4 hne
  have c0 := hB1.c0
  have c1 := hB1.c1
  have c2 := hB1.c2
  have z0 := hB1.z0
  obtain ⟨u3, c3⟩ : ∃ u, w1.cell? ⟨g1, k, none⟩ = some u := ⟨_, hB1.f1 k hn⟩
  obtain ⟨u4, c4⟩ : ∃ u, w1.cell? ⟨g2, k, none⟩ = some u := ⟨_, hB1.f2 k hn⟩
  have z3 := hB1.z1 k
  have z4 := hB1.z2 k
  have e1 := hB1.e1
  have e2 := hB1.e2
  have e3 := hB1.e3
  have x1 := Ne.symm e1
  have x2 := Ne.symm e2
  have x3 := Ne.symm e3
  replace hB1 := Lib.hid hB1
  replace hC1 := Lib.hid hC1
  go_region
  go_wp2
  go_ret
  exact ⟨rfl, ((hB1.out.drew.set1 hn (-1)).set2 hn (-1)).set3 (m - 1), ((((Ch9.refl _ _).drew.trans hC1.out).drew.set _ (Or.inr (Or.inl rfl)) _).set _ (Or.inr (Or.inr rfl)) _).set _ (Or.inl rfl) _⟩
theorem out_n1 {w : World} {p n : Nat} {L : List Int} {F : Nat → Prop} (i : Int) (hR : RA w p n L F) (hi : i ∉ L) :
    Calls Tryz.prog 165 #[.pointer (some ⟨p, 0, none⟩), .int .i64 i] w fun e w' => e = .returned (.bool false) ∧ w' = w := by
  obtain ⟨g1, g2, f, h, rfl, hB, hL⟩ := hR
  by_cases hr : 0 ≤ i ∧ i < n
  · obtain ⟨k, rfl⟩ : ∃ k : Nat, i = k := ⟨i.toNat, by omega⟩
    have hk : k < n := by omega
    have hf : f k = -1 := (hL.in_iff hk).2 hi
    have c0 := hB.c0
    have c1 := hB.f1 k hk
    rw [hf] at c1
    replace hB := Lib.hid hB
    clear hr hf hL
    go_enter Tryz.func165, Tryz.ntmps165
    go_wp2_with (first | (go_at_call 168; ((with_reducible refine (has_y hB.out hk).mono ?_); rintro e w' ⟨rfl, rfl⟩)))
    go_ret
    exact ⟨rfl, rfl⟩
  · replace hB := Lib.hid hB
    go_enter Tryz.func165, Tryz.ntmps165
    go_wp2_with (first | (go_at_call 168; ((with_reducible refine (has_n hB.out hr).mono ?_); rintro e w' ⟨rfl, rfl⟩)))
    go_ret
    exact ⟨rfl, rfl⟩
theorem out_k {w : World} {p n : Nat} {L : List Int} {F : Nat → Prop} (i : Int) (hR : RA w p n L F) :
    Calls Tryz.prog 165 #[.pointer (some ⟨p, 0, none⟩), .int .i64 i] w fun e w' => e = .returned (.bool (decide (i ∈ L))) ∧ RA w' p n (outL L i) F ∧ Ch9 F w w' := by
  by_cases hi : i ∈ L
  · obtain ⟨g1, g2, f, h, rfl, hB, hL⟩ := hR
    obtain ⟨k, rfl, hk⟩ := hL.mem hi
    obtain ⟨a, ea, ha, _⟩ := hL.prv_bd hi
    obtain ⟨b, eb, hb, _⟩ := hL.nxt_bd hi
    refine (out_y hB hL hi hk ea eb ha hb).mono ?_
    rintro e w' ⟨rfl, h1, h2⟩
    refine ⟨by rw [decide_eq_true hi], ⟨g1, g2, _, _, rfl, ?_, hL.out hi ea eb⟩, h2⟩
    have := len_outL hL.nd hi
    rw [show ((outL L (k : Int)).length : Int) = (L.length : Int) - 1 by omega]
    exact h1
  · refine (out_n1 i hR hi).mono ?_
    rintro e w' ⟨rfl, rfl⟩
    exact ⟨by rw [decide_eq_false hi], by rw [show outL L i = L by simp [outL, hi]]; exact hR, Ch9.refl _ _⟩
end Wd
end Go.Proofs.YteiejjmhmmkdhaaGreat

/- The ring of the package: one is put in. -/
namespace Go.Proofs.YteiejjmhmmkdhaaGreat
set_option maxRecDepth 20000
open Go.RowKit
set_option linter.unusedVariables false
namespace Wd
set_option maxHeartbeats 4000000 in
/-- ahead of another -/
theorem in_y {w : World} {p n g1 g2 k a b : Nat} {L : List Int} {f h : Nat → Int} (hB : RB w p g1 g2 n f h (L.length : Int)) (hL : RL n L f h) (hk : (k : Int) ∉ L) (hn : k < n) (hm : (a : Int) ∈ L) (eb : prv L a = b) (ha : a < n) (hb : b < n) :
    Calls Tryz.prog 166 #[.pointer (some ⟨p, 0, none⟩), .int .i64 (k : Int), .int .i64 (a : Int)] w fun e w' => e = .returned (.bool true) ∧ RB w' p g1 g2 n (upd (upd f b k) k a) (upd (upd h k b) a k) (L.length + 1 : Int) ∧ Ch9 (FF p g1 g2) w w' := by
  have hR : RA w p n L (FF p g1 g2) := ⟨g1, g2, f, h, rfl, hB, hL⟩
  have P0 : Calls Tryz.prog 169 #[.pointer (some ⟨p, 0, none⟩), .int .i64 (a : Int)] w fun e w' => e = .returned (.int .i64 (b : Int)) ∧ w' = w := eb ▸ prev_k a hR
  have hf : f k = -1 := (hL.in_iff hn).2 hk
  have hh : h a = b := (hL.eh a ha).trans eb
  have n1 : ((b : Int) == -1) = false := by simp
  have n2 : ((a : Int) == -1) = false := by simp
  have n3 : ((b : Int) != -1) = true := by simp
  have c0 := hB.c0
  have c1 := hB.c1
  have c3 := hB.f1 k hn
  have c4 := hB.f2 a ha
  rw [hf] at c3
  rw [hh] at c4
  have hlen : (L.length : Int) ≤ n := by have := hL.len; omega
  have hlen' : (n : Int) ≤ 4096 := by have := hL.n2; omega
  have hw : IntKind.i64.wrap ((L.length : Int) + 1) = (L.length : Int) + 1 := by rw [IntKind.wrap_i64]; omega
  generalize (L.length : Int) = m at *
  replace hB := Lib.hid hB
  replace P0 := Lib.hid P0
  clear hL eb hf hh hk hm hlen hlen' hR
  go_enter Tryz.func166, Tryz.ntmps166
  go_wp2_with (first | (go_at_call 168; ((with_reducible refine (has_y hB.out hn).mono ?_); rintro e w' ⟨rfl, rfl⟩)) | (go_at_call 169; ((with_reducible refine P0.out.mono ?_); rintro e w' ⟨rfl, rfl⟩)))
  refine (link_c b k p g1 g2 n f h m _ hB.out hb hn).mono ?_
  rintro e w1 ⟨rfl, hB1, hC1⟩
  replace hB1 := Lib.hid hB1
  replace hC1 := Lib.hid hC1
  go_wp2_with fail
  refine (link_c k a p g1 g2 n _ _ m _ hB1.out hn ha).mono ?_
  rintro e w2 ⟨rfl, hB2, hC2⟩
  have d2 := hB2.c2
  have z2 := hB2.z0
  replace hB2 := Lib.hid hB2
  replace hC2 := Lib.hid hC2
  clear c0 c1 c3 c4
  go_wp2
  go_ret
  exact ⟨rfl, hB2.out.set3 (m + 1), (hC1.out.trans hC2.out).set _ (Or.inl rfl) _⟩
set_option maxHeartbeats 4000000 in
/-- into an empty ring -/
theorem in_0 {w : World} {p n g1 g2 k : Nat} {f h : Nat → Int} (hB : RB w p g1 g2 n f h 0) (hL : RL n [] f h) (hn : k < n) :
    Calls Tryz.prog 166 #[.pointer (some ⟨p, 0, none⟩), .int .i64 (k : Int), .int .i64 (-1)] w fun e w' => e = .returned (.bool true) ∧ RB w' p g1 g2 n (upd f k k) (upd h k k) 1 ∧ Ch9 (FF p g1 g2) w w' := by
  have hf : f k = -1 := (hL.in_iff hn).2 (by simp)
  have c0 := hB.c0
  have c2 := hB.c2
  have c3 := hB.f1 k hn
  rw [hf] at c3
  replace hB := Lib.hid hB
  clear hL hf
  go_enter Tryz.func166, Tryz.ntmps166
  go_wp2_with (first | (go_at_call 168; ((with_reducible refine (has_y hB.out hn).mono ?_); rintro e w' ⟨rfl, rfl⟩)))
  refine (link_c k k p g1 g2 n f h 0 _ hB.out hn hn).mono ?_
  rintro e w1 ⟨rfl, hB1, hC1⟩
  have d2 := hB1.c2
  have z2 := hB1.z0
  replace hB1 := Lib.hid hB1
  replace hC1 := Lib.hid hC1
  clear c0 c2 c3
  go_wp2
  go_ret
  exact ⟨rfl, hB1.out.set3 1, hC1.out.set _ (Or.inl rfl) _⟩
/-- nothing is put in -/
theorem in_n {w : World} {p n : Nat} {L : List Int} {F : Nat → Prop} (i a : Int) (hR : RA w p n L F) (hi : putOk n L i a = false) :
    Calls Tryz.prog 166 #[.pointer (some ⟨p, 0, none⟩), .int .i64 i, .int .i64 a] w fun e w' => e = .returned (.bool false) ∧ w' = w := by
  unfold putOk at hi
  have hi := of_decide_eq_false hi
  have P0 := prev_k a hR
  obtain ⟨g1, g2, f, h, rfl, hB, hL⟩ := hR
  by_cases hr : 0 ≤ i ∧ i < n
  · obtain ⟨k, rfl⟩ : ∃ k : Nat, i = k := ⟨i.toNat, by omega⟩
    have hk : k < n := by omega
    by_cases hin : (k : Int) ∈ L
    · have hf : ((f k) == -1) = false := by simpa using fun e => (hL.in_iff hk).1 e hin
      have hf' : ((f k) != -1) = true := by simpa using fun e => (hL.in_iff hk).1 e hin
      have c0 := hB.c0
      have c1 := hB.f1 k hk
      generalize f k = u at c1 hf hf'
      replace hB := Lib.hid hB
      clear hr hL P0 hi
      go_enter Tryz.func166, Tryz.ntmps166
      go_wp2_with (first | (go_at_call 168; ((with_reducible refine (has_y hB.out hk).mono ?_); rintro e w' ⟨rfl, rfl⟩)))
      go_ret
      exact ⟨rfl, rfl⟩
    · have hf : f k = -1 := (hL.in_iff hk).2 hin
      have haL : a ∉ L := fun e => hi ⟨by omega, by omega, hin, Or.inl e⟩
      have c0 := hB.c0
      have c1 := hB.f1 k hk
      have c2 := hB.c2
      rw [hf] at c1
      rw [prv_out haL] at P0
      by_cases ha : a = -1
      · have hl : ((L.length : Int) == 0) = false := by
          have : L ≠ [] := fun e => hi ⟨by omega, by omega, hin, Or.inr ⟨ha, e⟩⟩
          simpa using this
        subst ha
        generalize (L.length : Int) = m at *
        replace hB := Lib.hid hB
        replace P0 := Lib.hid P0
        clear hr hL hi hf haL
        go_enter Tryz.func166, Tryz.ntmps166
        go_wp2_with (first | (go_at_call 168; ((with_reducible refine (has_y hB.out hk).mono ?_); rintro e w' ⟨rfl, rfl⟩)) | (go_at_call 169; ((with_reducible refine P0.out.mono ?_); rintro e w' ⟨rfl, rfl⟩)))
        go_ret
        exact ⟨rfl, rfl⟩
      · have ha' : (a == -1) = false := by simpa using ha
        replace hB := Lib.hid hB
        replace P0 := Lib.hid P0
        clear hr hL hi hf haL
        go_enter Tryz.func166, Tryz.ntmps166
        go_wp2_with (first | (go_at_call 168; ((with_reducible refine (has_y hB.out hk).mono ?_); rintro e w' ⟨rfl, rfl⟩)) | (go_at_call 169; ((with_reducible refine P0.out.mono ?_); rintro e w' ⟨rfl, rfl⟩)))
        go_ret
        exact ⟨rfl, rfl⟩
  · replace hB := Lib.hid hB
    go_enter Tryz.func166, Tryz.ntmps166
    go_wp2_with (first | (go_at_call 168; ((with_reducible refine (has_n hB.out hr).mono ?_); rintro e w' ⟨rfl, rfl⟩)))
    go_ret
    exact ⟨rfl, rfl⟩
theorem in_k {w : World} {p n : Nat} {L : List Int} {F : Nat → Prop} (i a : Int) (hR : RA w p n L F) :
    Calls Tryz.prog 166 #[.pointer (some ⟨p, 0, none⟩), .int .i64 i, .int .i64 a] w fun e w' => e = .returned (.bool (putOk n L i a)) ∧ RA w' p n (if putOk n L i a then inL L i a else L) F ∧ Ch9 F w w' := by
  by_cases hp : putOk n L i a = true
  · rw [hp, if_pos rfl]
    unfold putOk at hp
    obtain ⟨h0, h1, h2, h3⟩ := of_decide_eq_true hp
    obtain ⟨g1, g2, f, h, rfl, hB, hL⟩ := hR
    obtain ⟨k, rfl⟩ : ∃ k : Nat, i = k := ⟨i.toNat, by omega⟩
    by_cases ha : a ∈ L
    · obtain ⟨q, rfl, hq⟩ := hL.mem ha
      obtain ⟨b, eb, hb, _⟩ := hL.prv_bd ha
      refine (in_y hB hL h2 (by omega) ha eb hq hb).mono ?_
      rintro e w' ⟨rfl, d1, d2⟩
      refine ⟨rfl, ⟨g1, g2, _, _, rfl, ?_, hL.put (by omega) h2 ha eb⟩, d2⟩
      rw [(inL_facts hL.nd h2 ha).2.2.2.2]
      exact d1
    · obtain ⟨rfl, rfl⟩ := h3.resolve_left ha
      refine (in_0 hB hL (by omega)).mono ?_
      rintro e w' ⟨rfl, d1, d2⟩
      exact ⟨rfl, ⟨g1, g2, _, _, rfl, d1, hL.first (by omega) _⟩, d2⟩
  · have hp : putOk n L i a = false := by simpa using hp
    rw [hp, if_neg (by simp)]
    refine (in_n i a hR hp).mono ?_
    rintro e w' ⟨rfl, rfl⟩
    exact ⟨rfl, hR, Ch9.refl _ _⟩
end Wd
end Go.Proofs.YteiejjmhmmkdhaaGreat

/- The ring of the package: it is made. -/
namespace Go.Proofs.YteiejjmhmmkdhaaGreat
set_option maxRecDepth 20000
open Go.RowKit
set_option linter.unusedVariables false
namespace Wd
/-- three blocks that are made: two rows of noughts and what points at them -/
theorem made_rb {w : World} {n s ga gb : Nat} {Z : Array Value} (hn : 1 ≤ n) (hZ : Z = madeCells #[.int .i64 0] n) (hs : s = w.heap.size) (hg : (ga = s ∧ gb = s + 1) ∨ (ga = s + 1 ∧ gb = s)) :
    RB (((w.alloc (.cells Z 3)).alloc (.cells Z 3)).alloc (.cells #[.slice (some ⟨ga, 0, none⟩) n n, .slice (some ⟨gb, 0, none⟩) n n, .int .i64 n] 152)).drew (s + 1 + 1) ga gb n (fun _ => 0) (fun _ => 0) n
    ∧ Below w.heap.size w (((w.alloc (.cells Z 3)).alloc (.cells Z 3)).alloc (.cells #[.slice (some ⟨ga, 0, none⟩) n n, .slice (some ⟨gb, 0, none⟩) n n, .int .i64 n] 152)).drew := by
  have hz : ∀ k, k < n → Z[k]? = some (.int .i64 0) := by
    intro k hk
    have : (madeCells #[Value.int .i64 0] n).toList[k]? = some (.int .i64 0) := by rw [toList_madeCells_one]; simp [hk]
    rw [hZ, ← Array.getElem?_toList]
    exact this
  have hb : ∀ (k : Nat) (W : World), W.heap[ga]? = some (.cells Z 3 (0, 0)) → k < n → W.cell? ⟨ga, k, none⟩ = some (.int .i64 0) := by
    intro k W h hk
    simp [World.cell?, h, hz k hk]
  have hb' : ∀ (k : Nat) (W : World), W.heap[gb]? = some (.cells Z 3 (0, 0)) → k < n → W.cell? ⟨gb, k, none⟩ = some (.int .i64 0) := by
    intro k W h hk
    simp [World.cell?, h, hz k hk]
  have s1 : (w.alloc (.cells Z 3)).heap.size = s + 1 := by rw [hs]; simp
  have s2 : ((w.alloc (.cells Z 3)).alloc (.cells Z 3)).heap.size = s + 1 + 1 := by rw [hs]; simp
  have hh1 : (((w.alloc (.cells Z 3)).alloc (.cells Z 3)).alloc (.cells #[.slice (some ⟨ga, 0, none⟩) n n, .slice (some ⟨gb, 0, none⟩) n n, .int .i64 n] 152)).drew.heap[s]? = some (.cells Z 3 (0, 0)) := by
    show (((w.alloc (.cells Z 3)).alloc (.cells Z 3)).alloc (.cells #[.slice (some ⟨ga, 0, none⟩) n n, .slice (some ⟨gb, 0, none⟩) n n, .int .i64 n] 152)).heap[s]? = _
    rw [Below.heap_alloc _ _ _ (by omega), Below.heap_alloc _ _ _ (by omega), hs]
    exact heap_alloc_new _ _
  have hh2 : (((w.alloc (.cells Z 3)).alloc (.cells Z 3)).alloc (.cells #[.slice (some ⟨ga, 0, none⟩) n n, .slice (some ⟨gb, 0, none⟩) n n, .int .i64 n] 152)).drew.heap[s + 1]? = some (.cells Z 3 (0, 0)) := by
    show (((w.alloc (.cells Z 3)).alloc (.cells Z 3)).alloc (.cells #[.slice (some ⟨ga, 0, none⟩) n n, .slice (some ⟨gb, 0, none⟩) n n, .int .i64 n] 152)).heap[s + 1]? = _
    rw [Below.heap_alloc _ _ _ (by omega), ← s1]
    exact heap_alloc_new _ _
  have hh3 : (((w.alloc (.cells Z 3)).alloc (.cells Z 3)).alloc (.cells #[.slice (some ⟨ga, 0, none⟩) n n, .slice (some ⟨gb, 0, none⟩) n n, .int .i64 n] 152)).drew.heap[s + 1 + 1]? = some (.cells #[.slice (some ⟨ga, 0, none⟩) n n, .slice (some ⟨gb, 0, none⟩) n n, .int .i64 n] 152 (0, 0)) := by
    show (((w.alloc (.cells Z 3)).alloc (.cells Z 3)).alloc (.cells #[.slice (some ⟨ga, 0, none⟩) n n, .slice (some ⟨gb, 0, none⟩) n n, .int .i64 n] 152)).heap[s + 1 + 1]? = _
    rw [← s2]
    exact heap_alloc_new _ _
  have hB : Below w.heap.size w (((w.alloc (.cells Z 3)).alloc (.cells Z 3)).alloc (.cells #[.slice (some ⟨ga, 0, none⟩) n n, .slice (some ⟨gb, 0, none⟩) n n, .int .i64 n] 152)).drew :=
    (((((Below.refl _ _).alloc (Nat.le_refl _) _).alloc (by simp) _).alloc (by simp; omega) _).drew)
  refine ⟨?_, hB⟩
  generalize (((w.alloc (.cells Z 3)).alloc (.cells Z 3)).alloc (.cells #[.slice (some ⟨ga, 0, none⟩) n n, .slice (some ⟨gb, 0, none⟩) n n, .int .i64 n] 152)).drew = W at hh1 hh2 hh3
  have h1 : W.heap[ga]? = some (.cells Z 3 (0, 0)) := by rcases hg with ⟨rfl, rfl⟩ | ⟨rfl, rfl⟩ <;> assumption
  have h2 : W.heap[gb]? = some (.cells Z 3 (0, 0)) := by rcases hg with ⟨rfl, rfl⟩ | ⟨rfl, rfl⟩ <;> assumption
  exact ⟨by simp [World.cell?, hh3], by simp [World.cell?, hh3], by simp [World.cell?, hh3], by simp [World.frozen?, hh3], fun k hk => hb k W h1 hk, fun k hk => hb' k W h2 hk, fun k => by simp [World.frozen?, h1], fun k => by simp [World.frozen?, h2], by omega, by omega, by omega⟩
theorem Below.ch {w wr w1 : World} {p g1 g2 : Nat} (h : Below w.heap.size w wr) (c : Ch9 (FF p g1 g2) wr w1) (hF : ∀ k, FF p g1 g2 k → w.heap.size ≤ k) : Below w.heap.size w w1 :=
  ⟨c.os.trans h.os, c.tape.trans h.tape, c.output.trans h.output, Nat.le_trans h.size c.size, fun k hk => (c.block k (Nat.lt_of_lt_of_le hk h.size) (fun e => by have := hF k e; omega)).trans (h.block k hk)⟩
/-- the rows while they are filled -/
structure NSt (w : World) (p g1 g2 n k : Nat) (wr : World) : Prop where
  rb : ∃ f h, RB wr p g1 g2 n f h n ∧ ∀ j, j < k → f j = (((j + 1) % n : Nat) : Int) ∧ h ((j + 1) % n) = (j : Int)
  bel : Below w.heap.size w wr
  far : ∀ k, FF p g1 g2 k → w.heap.size ≤ k
theorem mod_apart {j k n : Nat} (hj : j < k) (hk : k < n) : (j + 1) % n ≠ (k + 1) % n := by
  rw [Nat.mod_eq_of_lt (by omega : j + 1 < n)]
  by_cases h : k + 1 = n
  · rw [h, Nat.mod_self]; omega
  · rw [Nat.mod_eq_of_lt (by omega : k + 1 < n)]; omega
/-- one round -/
theorem NSt.step {w wr : World} {p g1 g2 n k : Nat} (h : NSt w p g1 g2 n k wr) (hk : k < n) :
    Calls Tryz.prog 87 #[.pointer (some ⟨p, 0, none⟩), .int .i64 (k : Int), .int .i64 (((k + 1) % n : Nat) : Int)] wr fun e w' => e = .returned (.tuple #[]) ∧ NSt w p g1 g2 n (k + 1) w' := by
  obtain ⟨f, g, hB, hf⟩ := h.rb
  refine (link_c k ((k + 1) % n) p g1 g2 n f g n wr hB hk (Nat.mod_lt _ (by omega))).mono ?_
  rintro e w' ⟨rfl, d1, d2⟩
  refine ⟨rfl, ⟨_, _, d1, fun j hj => ?_⟩, Below.ch h.bel d2 h.far, h.far⟩
  by_cases c : j = k
  · subst c; exact ⟨upd_same _ _ _, upd_same _ _ _⟩
  · have hjk : j < k := by omega
    rw [upd_ne _ _ c, upd_ne _ _ (mod_apart hjk hk)]
    exact hf j hjk
set_option maxHeartbeats 4000000 in
theorem new_k {w : World} (n : Nat) (h1 : 1 ≤ n) (h2 : n ≤ 4096) :
    Calls Tryz.prog 72 #[.int .i64 n] w fun e w' => ∃ p F, e = .returned (.pointer (some ⟨p, 0, none⟩)) ∧ RA w' p n (rng n) F ∧ (∀ k, F k → w.heap.size ≤ k) ∧ Below w.heap.size w w' := by
  have d1 : decide ((n : Int) < 1) = false := by simp; omega
  have d2 : decide (4096 < (n : Int)) = false := by simp; omega
  have d3 : decide ((n : Int) > 4096) = false := by simp; omega
  obtain ⟨i0, hi0, hz0, hz1, hz2⟩ := info_parts info3
  obtain ⟨Z, hZ, hmk⟩ : ∃ Z : Array Value, Z = madeCells #[.int .i64 0] n ∧ ∀ w, (Instr.makeSlice 34 (.int .i64 (n : Int)) (.int .i64 (n : Int))).run Tryz.prog w = .ok (.slice (some ⟨w.heap.size, 0, none⟩) n n) (w.alloc (.cells Z 3)) := by
    refine ⟨_, rfl, fun w => ?_⟩
    have := run_make (P := Tryz.prog) w 34 3 i0 (.int .i64 0) Tryz.underlying34 hi0 hz0 .i64 .i64 n n (by omega) (by omega) (by rw [hz2]; omega) (by omega)
    rw [hz1] at this
    simpa [Value.cells] using this
  replace hZ := Lib.hid hZ
  go_enter Tryz.func72, Tryz.ntmps72
  go_wp2
  go_region
  · have R0 := made_rb (w := w) (n := n) (s := w.heap.size) (ga := w.heap.size) (gb := w.heap.size + 1) h1 hZ.out rfl (Or.inl ⟨rfl, rfl⟩)
    have S0 : NSt w (w.heap.size + 1 + 1) (w.heap.size) (w.heap.size + 1) n 0 _ := ⟨⟨_, _, R0.1, fun j hj => by omega⟩, R0.2, by rintro k (rfl | rfl | rfl) <;> omega⟩
    clear R0 hZ hmk hi0 hz0 hz1 hz2
    generalize (((w.alloc (.cells Z 3)).alloc (.cells Z 3)).alloc (.cells #[.slice (some ⟨w.heap.size, 0, none⟩) n n, .slice (some ⟨w.heap.size + 1, 0, none⟩) n n, .int .i64 n] 152)).drew = W at *
    obtain ⟨p, hp⟩ : ∃ p, p = w.heap.size + 1 + 1 := ⟨_, rfl⟩
    obtain ⟨ga, hga⟩ : ∃ ga, ga = w.heap.size := ⟨_, rfl⟩
    obtain ⟨gb, hgb⟩ : ∃ gb, gb = w.heap.size + 1 := ⟨_, rfl⟩
    rw [← hp, ← hgb, ← hga] at S0
    replace S0 := Lib.hid S0
    simp only [← hp]
    simp only [← hgb]
    simp only [← hga]
    have hn0 : ((n : Int) == 0) = false := by simp; omega
    clear hp hga hgb
    go_wp2
    go_loopw [19] (fun i wr => ∃ k : Nat, k ≤ n ∧ i = .int .i64 k ∧ NSt w p ga gb n k wr) (fun i _ => n - (intOf i).toNat)
    case atStart => exact ⟨0, by omega, rfl, S0.out⟩
    case round =>
      obtain ⟨k, hk, rfl, hR⟩ := hrel
      by_cases hlt : k < n
      · have hlt' : decide ((k : Int) < (n : Int)) = true := by simp; omega
        have hw : IntKind.i64.wrap ((k : Int) + 1) = (k : Int) + 1 := by rw [IntKind.wrap_i64]; omega
        have hq : Int.tmod ((k : Int) + 1) (n : Int) = (((k + 1) % n : Nat) : Int) := by rw [show ((k : Int) + 1) = ((k + 1 : Nat) : Int) by omega, ← Int.ofNat_tmod]
        have hL := Lib.hid (hR.step hlt)
        replace hR := Lib.hid hR
        have hq0 : (0 : Int) ≤ (((k + 1) % n : Nat) : Int) := by omega
        have hq1 : (((k + 1) % n : Nat) : Int) ≤ 4096 := by have := Nat.mod_lt (k + 1) (show n > 0 by omega); omega
        generalize (k + 1) % n = q at *
        go_wp2_with (first | (go_at_call 87; ((with_reducible refine hL.out.mono ?_); rintro e w1 ⟨rfl, hR1⟩; replace hR1 := Lib.hid hR1)))
        go_roundw
        case rel => exact ⟨k + 1, by omega, by go_num, hR1.out⟩
        case measure => simp [intOf]; omega
      · have e : k = n := by omega
        subst e
        replace hR := Lib.hid hR
        go_wp2
        go_ret
        obtain ⟨f, g, d1, d2⟩ := hR.out.rb
        exact ⟨p, _, rfl, ⟨ga, gb, f, g, rfl, by rw [rng_len]; exact d1, RL.made h1 h2 d2⟩, hR.out.far, hR.out.bel⟩

  · have R0 := made_rb (w := w) (n := n) (s := w.heap.size) (ga := w.heap.size + 1) (gb := w.heap.size) h1 hZ.out rfl (Or.inr ⟨rfl, rfl⟩)
    have S0 : NSt w (w.heap.size + 1 + 1) (w.heap.size + 1) (w.heap.size) n 0 _ := ⟨⟨_, _, R0.1, fun j hj => by omega⟩, R0.2, by rintro k (rfl | rfl | rfl) <;> omega⟩
    clear R0 hZ hmk hi0 hz0 hz1 hz2
    generalize (((w.alloc (.cells Z 3)).alloc (.cells Z 3)).alloc (.cells #[.slice (some ⟨w.heap.size + 1, 0, none⟩) n n, .slice (some ⟨w.heap.size, 0, none⟩) n n, .int .i64 n] 152)).drew = W at *
    obtain ⟨p, hp⟩ : ∃ p, p = w.heap.size + 1 + 1 := ⟨_, rfl⟩
    obtain ⟨ga, hga⟩ : ∃ ga, ga = w.heap.size + 1 := ⟨_, rfl⟩
    obtain ⟨gb, hgb⟩ : ∃ gb, gb = w.heap.size := ⟨_, rfl⟩
    rw [← hp, ← hga, ← hgb] at S0
    replace S0 := Lib.hid S0
    simp only [← hp]
    simp only [← hga]
    simp only [← hgb]
    have hn0 : ((n : Int) == 0) = false := by simp; omega
    clear hp hga hgb
    go_wp2
    go_loopw [19] (fun i wr => ∃ k : Nat, k ≤ n ∧ i = .int .i64 k ∧ NSt w p ga gb n k wr) (fun i _ => n - (intOf i).toNat)
    case atStart => exact ⟨0, by omega, rfl, S0.out⟩
    case round =>
      obtain ⟨k, hk, rfl, hR⟩ := hrel
      by_cases hlt : k < n
      · have hlt' : decide ((k : Int) < (n : Int)) = true := by simp; omega
        have hw : IntKind.i64.wrap ((k : Int) + 1) = (k : Int) + 1 := by rw [IntKind.wrap_i64]; omega
        have hq : Int.tmod ((k : Int) + 1) (n : Int) = (((k + 1) % n : Nat) : Int) := by rw [show ((k : Int) + 1) = ((k + 1 : Nat) : Int) by omega, ← Int.ofNat_tmod]
        have hL := Lib.hid (hR.step hlt)
        replace hR := Lib.hid hR
        have hq0 : (0 : Int) ≤ (((k + 1) % n : Nat) : Int) := by omega
        have hq1 : (((k + 1) % n : Nat) : Int) ≤ 4096 := by have := Nat.mod_lt (k + 1) (show n > 0 by omega); omega
        generalize (k + 1) % n = q at *
        go_wp2_with (first | (go_at_call 87; ((with_reducible refine hL.out.mono ?_); rintro e w1 ⟨rfl, hR1⟩; replace hR1 := Lib.hid hR1)))
        go_roundw
        case rel => exact ⟨k + 1, by omega, by go_num, hR1.out⟩
        case measure => simp [intOf]; omega
      · have e : k = n := by omega
        subst e
        replace hR := Lib.hid hR
        go_wp2
        go_ret
        obtain ⟨f, g, d1, d2⟩ := hR.out.rb
        exact ⟨p, _, rfl, ⟨ga, gb, f, g, rfl, by rw [rng_len]; exact d1, RL.made h1 h2 d2⟩, hR.out.far, hR.out.bel⟩
end Wd
end Go.Proofs.YteiejjmhmmkdhaaGreat

/- The package's ring: it may be told from anywhere on; one is taken out of the middle, and put in there. -/
namespace Go.Proofs.YteiejjmhmmkdhaaGreat
set_option maxRecDepth 20000
open Go.RowKit
set_option linter.unusedVariables false
namespace Wd
theorem RL.rot {n : Nat} {X Y : List Int} {f h : Nat → Int} (r : RL n (X ++ Y) f h) : RL n (Y ++ X) f h :=
  ⟨r.n1, r.n2, nd_rot r.nd, fun x hx => r.bd x (by simpa [or_comm] using hx), fun k hk => (r.ef k hk).trans (nxt_rot X Y r.nd k).symm, fun k hk => (r.eh k hk).trans (prv_rot X Y r.nd k).symm⟩
/-- a ring may be told from anywhere on -/
theorem RA.rot {w : World} {p n : Nat} {X Y : List Int} {F : Nat → Prop} (h : RA w p n (X ++ Y) F) : RA w p n (Y ++ X) F := by
  obtain ⟨g1, g2, f, g, hF, hB, hL⟩ := h
  refine ⟨g1, g2, f, g, hF, ?_, hL.rot⟩
  rw [show (Y ++ X).length = (X ++ Y).length by simp [Nat.add_comm]]
  exact hB
theorem RA.nd {w : World} {p n : Nat} {L : List Int} {F : Nat → Prop} (h : RA w p n L F) : L.Nodup := by
  obtain ⟨_, _, _, _, _, _, hL⟩ := h
  exact hL.nd
theorem RA.mem {w : World} {p n : Nat} {L : List Int} {F : Nat → Prop} (h : RA w p n L F) {i : Int} (hi : i ∈ L) : 0 ≤ i ∧ i < n := by
  obtain ⟨_, _, _, _, _, _, hL⟩ := h
  exact hL.bd i hi
theorem idxOf_mid {X Y : List Int} {i : Int} (h : i ∉ X) : (X ++ i :: Y).idxOf i = X.length := by
  rw [List.idxOf_append, if_neg h]
  simp
theorem outL_mid {X Y : List Int} {i : Int} (h : i ∉ X) : outL (X ++ i :: Y) i = X ++ Y := by
  unfold outL
  rw [if_pos (by simp), idxOf_mid h]
  simp
theorem inL_mid {X Y : List Int} {i a : Int} (h : a ∉ X) : inL (X ++ a :: Y) i a = X ++ [i] ++ a :: Y := by
  unfold inL
  rw [if_pos (by simp), idxOf_mid h]
  simp
theorem nxt_mid {X Y : List Int} {i j : Int} (h : (X ++ i :: j :: Y).Nodup) : nxt (X ++ i :: j :: Y) i = j := by
  have hn : i ∉ X := fun hi => (List.nodup_append.1 h).2.2 i hi i (by simp) rfl
  unfold nxt
  rw [if_pos (by simp), idxOf_mid hn]
  have : (X.length + 1) % (X ++ i :: j :: Y).length = X.length + 1 := Nat.mod_eq_of_lt (by simp)
  rw [this]
  simp
theorem mid_out {n : Nat} {A : Mst} (h : Good n A) {x : Nat} (hx : x < 4) {P Q : List Int} {i : Int} (hA : A x = P ++ i :: Q) : outL (LL A) i = LL (upA A x (P ++ Q)) := by
  have hn := good_nd h
  have key : ∀ X Y : List Int, LL A = X ++ (P ++ i :: Q) ++ Y → LL (upA A x (P ++ Q)) = X ++ (P ++ Q) ++ Y → outL (LL A) i = LL (upA A x (P ++ Q)) := by
    intro X Y e1 e2
    have hnd : (X ++ (P ++ i :: Q) ++ Y).Nodup := by rw [← e1]; exact hn
    have hni : i ∉ X ++ P := by
      intro hi
      have e3 : X ++ (P ++ i :: Q) ++ Y = (X ++ P) ++ i :: (Q ++ Y) := by simp
      rw [e3] at hnd
      exact (List.nodup_append.1 hnd).2.2 i hi i (by simp) rfl
    rw [e1, e2, show X ++ (P ++ i :: Q) ++ Y = (X ++ P) ++ i :: (Q ++ Y) by simp, outL_mid hni]
    simp
  rcases (show x = 0 ∨ x = 1 ∨ x = 2 ∨ x = 3 by omega) with rfl | rfl | rfl | rfl
  · exact key [] (A 1 ++ (A 2 ++ A 3)) (by simp [LL, hA]) (by simp [LL, upA])
  · exact key (A 0) (A 2 ++ A 3) (by simp [LL, hA]) (by simp [LL, upA])
  · exact key (A 0 ++ A 1) (A 3) (by simp [LL, hA]) (by simp [LL, upA])
  · exact key (A 0 ++ (A 1 ++ A 2)) [] (by simp [LL, hA]) (by simp [LL, upA])
/-- one is laid behind U, ahead of the first of T: or of the first of U, if T is nothing -/
theorem lay_tail {U T : List Int} {i a : Int} (h : a ∉ U) : inL (U ++ a :: T) i a = (U ++ [i]) ++ a :: T := inL_mid h
theorem lay_head {U : List Int} {i a : Int} : inL (a :: U) i a = [i] ++ a :: U := inL_mid (X := []) (by simp)
end Wd
end Go.Proofs.YteiejjmhmmkdhaaGreat

/- The package's mill: how it lies in memory, and what its rows are. -/
namespace Go.Proofs.YteiejjmhmmkdhaaGreat
set_option maxRecDepth 20000
open Go.RowKit
set_option linter.unusedVariables false
namespace Wd
theorem RA.lt {w : World} {p n : Nat} {L : List Int} {F : Nat → Prop} (h : RA w p n L F) : ∀ k, F k → k < w.heap.size := by
  obtain ⟨g1, g2, f, h, rfl, hB, hL⟩ := h
  exact hB.lt (by have := hL.n1; omega)
theorem RA.same {w w' : World} {p n : Nat} {L : List Int} {F : Nat → Prop} (h : RA w p n L F) (hk : ∀ k, F k → w'.heap[k]? = w.heap[k]?) : RA w' p n L F := by
  obtain ⟨g1, g2, f, h, rfl, hB, hL⟩ := h
  exact ⟨g1, g2, f, h, rfl, hB.same hk, hL⟩
/-- a mill at block p: its ring at q, in the blocks FR; the row of its colours at gc; the first ones fs, the counts ns -/
structure MS (w : World) (p q gc n : Nat) (FR : Nat → Prop) (L : List Int) (cs fs ns : Nat → Int) : Prop where
  c0 : w.cell? ⟨p, 0, none⟩ = some (.pointer (some ⟨q, 0, none⟩))
  c1 : w.cell? ⟨p, 1, none⟩ = some (.slice (some ⟨gc, 0, none⟩) n n)
  cf : ∀ k, k < 4 → w.cell? ⟨p, 2 + k, none⟩ = some (.int .i64 (fs k))
  cn : ∀ k, k < 4 → w.cell? ⟨p, 6 + k, none⟩ = some (.int .i64 (ns k))
  cc : ∀ k, k < n → w.cell? ⟨gc, k, none⟩ = some (.int .i64 (cs k))
  zp : ∀ k, w.frozen? ⟨p, k, none⟩ = false
  zc : ∀ k, w.frozen? ⟨gc, k, none⟩ = false
  ring : RA w q n L FR
  e : p ≠ gc
  ep : ¬ FR p
  ec : ¬ FR gc
def FM (p gc : Nat) (FR : Nat → Prop) : Nat → Prop := fun k => k = p ∨ k = gc ∨ FR k
section
variable {w w' w1 : World} {p q gc n : Nat} {FR : Nat → Prop} {L L' : List Int} {cs fs ns : Nat → Int}
theorem MS.same (r : MS w p q gc n FR L cs fs ns) (hb : ∀ k, FM p gc FR k → w'.heap[k]? = w.heap[k]?) : MS w' p q gc n FR L cs fs ns := by
  have hp := hb p (Or.inl rfl)
  have h1 := hb gc (Or.inr (Or.inl rfl))
  exact ⟨(World.cell?_of_block (a := ⟨p, 0, none⟩) hp).trans r.c0, (World.cell?_of_block (a := ⟨p, 1, none⟩) hp).trans r.c1, fun k hk => (World.cell?_of_block (a := ⟨p, 2 + k, none⟩) hp).trans (r.cf k hk),
    fun k hk => (World.cell?_of_block (a := ⟨p, 6 + k, none⟩) hp).trans (r.cn k hk), fun k hk => (World.cell?_of_block (a := ⟨gc, k, none⟩) h1).trans (r.cc k hk), fun k => (World.frozen?_of_block (a := ⟨p, k, none⟩) hp).trans (r.zp k),
    fun k => (World.frozen?_of_block (a := ⟨gc, k, none⟩) h1).trans (r.zc k), r.ring.same (fun k hk => hb k (Or.inr (Or.inr hk))), r.e, r.ep, r.ec⟩
theorem MS.lt (r : MS w p q gc n FR L cs fs ns) (hn : 0 < n) : ∀ k, FM p gc FR k → k < w.heap.size := by
  rintro k (rfl | rfl | hk)
  · exact World.block_lt_of_cell? w _ r.c0
  · exact World.block_lt_of_cell? w _ (r.cc 0 hn)
  · exact r.ring.lt k hk
theorem MS.keep (r : MS w p q gc n FR L cs fs ns) (hn : 0 < n) (b : Below w.heap.size w w') : MS w' p q gc n FR L cs fs ns := r.same (fun k hk => b.block k (r.lt hn k hk))
/-- the ring does something -/
theorem MS.rung (r : MS w p q gc n FR L cs fs ns) (hn : 0 < n) (hR : RA w' q n L' FR) (c : Ch9 FR w w') : MS w' p q gc n FR L' cs fs ns := by
  have hlt := r.lt hn
  have hp := c.block p (hlt p (Or.inl rfl)) r.ep
  have h1 := c.block gc (hlt gc (Or.inr (Or.inl rfl))) r.ec
  exact ⟨(World.cell?_of_block (a := ⟨p, 0, none⟩) hp).trans r.c0, (World.cell?_of_block (a := ⟨p, 1, none⟩) hp).trans r.c1, fun k hk => (World.cell?_of_block (a := ⟨p, 2 + k, none⟩) hp).trans (r.cf k hk),
    fun k hk => (World.cell?_of_block (a := ⟨p, 6 + k, none⟩) hp).trans (r.cn k hk), fun k hk => (World.cell?_of_block (a := ⟨gc, k, none⟩) h1).trans (r.cc k hk), fun k => (World.frozen?_of_block (a := ⟨p, k, none⟩) hp).trans (r.zp k),
    fun k => (World.frozen?_of_block (a := ⟨gc, k, none⟩) h1).trans (r.zc k), hR, r.e, r.ep, r.ec⟩
theorem MS.rot {X Y : List Int} (r : MS w p q gc n FR (X ++ Y) cs fs ns) : MS w p q gc n FR (Y ++ X) cs fs ns :=
  ⟨r.c0, r.c1, r.cf, r.cn, r.cc, r.zp, r.zc, r.ring.rot, r.e, r.ep, r.ec⟩
theorem RA.set {F : Nat → Prop} (h : RA w q n L F) (a : Addr) (v : Value) (ha : ¬ F a.block) : RA (w.setCell a v) q n L F :=
  h.same (fun k hk => Below.heap_setCell _ _ _ _ (fun e => ha (e ▸ hk)))
theorem MS.setF (r : MS w p q gc n FR L cs fs ns) {k : Nat} (hk : k < 4) (v : Int) : MS (w.setCell ⟨p, 2 + k, none⟩ (.int .i64 v)) p q gc n FR L cs (upd fs k v) ns := by
  refine ⟨(World.cell?_setCell_other _ _ _ _ (by intro e; injection e with _ h2; omega)).trans r.c0, (World.cell?_setCell_other _ _ _ _ (by intro e; injection e with _ h2; omega)).trans r.c1, fun j hj => ?_,
    fun j hj => (World.cell?_setCell_other _ _ _ _ (by intro e; injection e with _ h2; omega)).trans (r.cn j hj), fun j hj => (World.cell?_setCell_far _ _ _ _ r.e).trans (r.cc j hj),
    fun j => by rw [World.frozen?_setCell]; exact r.zp j, fun j => by rw [World.frozen?_setCell]; exact r.zc j, r.ring.set _ _ r.ep, r.e, r.ep, r.ec⟩
  by_cases c : j = k
  · subst c; rw [upd_same]; exact World.cell?_setCell_same _ _ _ (r.cf j hj)
  · rw [upd_ne _ _ c]; exact (World.cell?_setCell_other _ _ _ _ (by intro e; injection e with _ h2; omega)).trans (r.cf j hj)
theorem MS.setN (r : MS w p q gc n FR L cs fs ns) {k : Nat} (hk : k < 4) (v : Int) : MS (w.setCell ⟨p, 6 + k, none⟩ (.int .i64 v)) p q gc n FR L cs fs (upd ns k v) := by
  refine ⟨(World.cell?_setCell_other _ _ _ _ (by intro e; injection e with _ h2; omega)).trans r.c0, (World.cell?_setCell_other _ _ _ _ (by intro e; injection e with _ h2; omega)).trans r.c1, fun j hj => (World.cell?_setCell_other _ _ _ _ (by intro e; injection e with _ h2; omega)).trans (r.cf j hj),
    fun j hj => ?_, fun j hj => (World.cell?_setCell_far _ _ _ _ r.e).trans (r.cc j hj),
    fun j => by rw [World.frozen?_setCell]; exact r.zp j, fun j => by rw [World.frozen?_setCell]; exact r.zc j, r.ring.set _ _ r.ep, r.e, r.ep, r.ec⟩
  by_cases c : j = k
  · subst c; rw [upd_same]; exact World.cell?_setCell_same _ _ _ (r.cn j hj)
  · rw [upd_ne _ _ c]; exact (World.cell?_setCell_other _ _ _ _ (by intro e; injection e with _ h2; omega)).trans (r.cn j hj)
theorem MS.setC (r : MS w p q gc n FR L cs fs ns) {k : Nat} (hk : k < n) (v : Int) : MS (w.setCell ⟨gc, k, none⟩ (.int .i64 v)) p q gc n FR L (upd cs k v) fs ns := by
  have e' := r.e.symm
  refine ⟨(World.cell?_setCell_far _ _ _ _ e').trans r.c0, (World.cell?_setCell_far _ _ _ _ e').trans r.c1, fun j hj => (World.cell?_setCell_far _ _ _ _ e').trans (r.cf j hj),
    fun j hj => (World.cell?_setCell_far _ _ _ _ e').trans (r.cn j hj), fun j hj => ?_,
    fun j => by rw [World.frozen?_setCell]; exact r.zp j, fun j => by rw [World.frozen?_setCell]; exact r.zc j, r.ring.set _ _ r.ec, r.e, r.ep, r.ec⟩
  by_cases c : j = k
  · subst c; rw [upd_same]; exact World.cell?_setCell_same _ _ _ (r.cc j hj)
  · rw [upd_ne _ _ c]; exact (World.cell?_setCell_other _ _ _ _ (by intro e; cases e; exact c rfl)).trans (r.cc j hj)
theorem MS.drew (r : MS w p q gc n FR L cs fs ns) : MS w.drew p q gc n FR L cs fs ns := r.same (fun _ _ => rfl)
end
/-- the first ones, and the counts, are those of the rows -/
structure MT (A : Mst) (fs ns : Nat → Int) : Prop where
  ef : ∀ k, k < 4 → ∀ i T, A k = i :: T → fs k = i
  en : ∀ k, k < 4 → ns k = (A k).length
/-- the package's mill: at block p, of n cells, its rows are A -/
def MA (w : World) (p n : Nat) (A : Mst) (F : Nat → Prop) : Prop := ∃ q gc FR cs fs ns, F = FM p gc FR ∧ MS w p q gc n FR (LL A) cs fs ns ∧ MT A fs ns ∧ (∀ k : Nat, k < n → cs k = colorR A k) ∧ Good n A ∧ 1 ≤ n ∧ n ≤ 512
end Wd
end Go.Proofs.YteiejjmhmmkdhaaGreat

/- The package's mill: Color, Count, and what lies behind a stretch. -/
namespace Go.Proofs.YteiejjmhmmkdhaaGreat
set_option maxRecDepth 20000
open Go.RowKit
set_option linter.unusedVariables false
namespace Wd
theorem gcolor_k {w : World} {p n : Nat} {A : Mst} {F : Nat → Prop} (i : Int) (h : MA w p n A F) :
    Calls Tryz.prog 158 #[.pointer (some ⟨p, 0, none⟩), .int .i64 i] w fun e w' => e = .returned (.int .i64 (colorR A i)) ∧ w' = w := by
  obtain ⟨q, gc, FR, cs, fs, ns, rfl, hS, hT, hC, hG, h1, h2⟩ := h
  have c1 := hS.c1
  by_cases h0 : 0 ≤ i
  · by_cases hn : i < n
    · obtain ⟨k, rfl⟩ : ∃ k : Nat, i = k := ⟨i.toNat, by omega⟩
      have hk : k < n := by omega
      rw [← hC k hk]
      have c2 := hS.cc k hk
      have d1 : decide ((k : Int) < 0) = false := by simp
      have d2 : decide ((k : Int) ≥ (n : Int)) = false := by simp; omega
      have d3 : decide ((n : Int) ≤ (k : Int)) = false := by simp; omega
      clear hS hT hC hG h1 h2
      go_enter Tryz.func158, Tryz.ntmps158
      go_wp2
      go_ret
      exact ⟨rfl, rfl⟩
    · rw [good_out hG (by omega)]
      have d1 : decide (i < 0) = false := by simp; omega
      have d2 : decide (i ≥ (n : Int)) = true := by simp; omega
      have d3 : decide ((n : Int) ≤ i) = true := by simp; omega
      clear hS hT hC hG h1 h2
      go_enter Tryz.func158, Tryz.ntmps158
      go_wp2
      go_ret
      exact ⟨rfl, rfl⟩
  · rw [good_out hG (by omega)]
    have d1 : decide (i < 0) = true := by simp; omega
    clear hS hT hC hG h1 h2
    go_enter Tryz.func158, Tryz.ntmps158
    go_wp2
    go_ret
    exact ⟨rfl, rfl⟩
/-- the rows behind y, and y itself -/
def turnd (A : Mst) (y : Nat) : List Int := A ((y + 1) % 4) ++ (A ((y + 2) % 4) ++ (A ((y + 3) % 4) ++ A ((y + 4) % 4)))
theorem turnd_none {A : Mst} {y : Nat} (h : ∀ j, j < 4 → A ((y + 1 + j) % 4) = []) : (turnd A y).headD (-1) = -1 := by
  have h0 := h 0 (by omega); have h1 := h 1 (by omega); have h2 := h 2 (by omega); have h3 := h 3 (by omega)
  simp only [Nat.add_assoc] at h0 h1 h2 h3
  unfold turnd
  rw [show (y + (1 + 0)) = y + 1 by omega] at h0
  rw [show (y + (1 + 1)) = y + 2 by omega] at h1
  rw [show (y + (1 + 2)) = y + 3 by omega] at h2
  rw [show (y + (1 + 3)) = y + 4 by omega] at h3
  rw [h0, h1, h2, h3]; rfl
theorem turnd_some {A : Mst} {y k : Nat} {i : Int} {T : List Int} (hk : k < 4) (h : ∀ j, j < k → A ((y + 1 + j) % 4) = []) (hi : A ((y + 1 + k) % 4) = i :: T) : (turnd A y).headD (-1) = i := by
  unfold turnd
  rcases (show k = 0 ∨ k = 1 ∨ k = 2 ∨ k = 3 by omega) with rfl | rfl | rfl | rfl
  · rw [show y + 1 + 0 = y + 1 by omega] at hi
    rw [hi]; rfl
  · have h0 := h 0 (by omega)
    rw [show y + 1 + 0 = y + 1 by omega] at h0
    rw [show y + 1 + 1 = y + 2 by omega] at hi
    rw [h0, hi]; rfl
  · have h0 := h 0 (by omega); have h1 := h 1 (by omega)
    rw [show y + 1 + 0 = y + 1 by omega] at h0
    rw [show y + 1 + 1 = y + 2 by omega] at h1
    rw [show y + 1 + 2 = y + 3 by omega] at hi
    rw [h0, h1, hi]; rfl
  · have h0 := h 0 (by omega); have h1 := h 1 (by omega); have h2 := h 2 (by omega)
    rw [show y + 1 + 0 = y + 1 by omega] at h0
    rw [show y + 1 + 1 = y + 2 by omega] at h1
    rw [show y + 1 + 2 = y + 3 by omega] at h2
    rw [show y + 1 + 3 = y + 4 by omega] at hi
    rw [h0, h1, h2, hi]; rfl
/-- the first one behind row y; -1, if there is none -/
def behR (A : Mst) (y : Nat) : Int := (turnd A y).headD (-1)
/-- so far the rows behind are empty -/
structure BSt (A : Mst) (y k : Nat) (w wr : World) : Prop where
  eq : wr = w
  em : ∀ j, j < k → A ((y + 1 + j) % 4) = []
theorem gbehind_c {w : World} {p q gc n y : Nat} {FR : Nat → Prop} {L : List Int} {cs fs ns : Nat → Int} {A : Mst} (hy : y < 4) (hS : MS w p q gc n FR L cs fs ns) (hT : MT A fs ns) :
    Calls Tryz.prog 167 #[.pointer (some ⟨p, 0, none⟩), .int .i64 (y : Int)] w fun e w' => e = .returned (.int .i64 (behR A y)) ∧ w' = w := by
  have hcf := Lib.hid hS.cf
  have hcn := Lib.hid hS.cn
  replace hT := Lib.hid hT
  clear hS
  go_enter Tryz.func167, Tryz.ntmps167
  go_wp2
  go_loopw [7] (fun i wr => ∃ k : Nat, k ≤ 4 ∧ i = .int .i64 k ∧ BSt A y k w wr) (fun i _ => 4 - (intOf i).toNat)
  case atStart => exact ⟨0, by omega, rfl, rfl, fun j hj => by omega⟩
  case round =>
    obtain ⟨k, hk, rfl, rfl, hR⟩ := hrel
    by_cases hlt : k < 4
    · have hlt' : decide ((k : Int) < 4) = true := by simp; omega
      have hw1 : IntKind.i64.wrap ((y : Int) + 1) = (y : Int) + 1 := by rw [IntKind.wrap_i64]; omega
      have hw2 : IntKind.i64.wrap ((y : Int) + 1 + (k : Int)) = (y : Int) + 1 + (k : Int) := by rw [IntKind.wrap_i64]; omega
      have hw3 : IntKind.i64.wrap ((k : Int) + 1) = (k : Int) + 1 := by rw [IntKind.wrap_i64]; omega
      obtain ⟨z, hz⟩ : ∃ z, z = (y + 1 + k) % 4 := ⟨_, rfl⟩
      have hq : Int.tmod ((y : Int) + 1 + (k : Int)) 4 = (z : Int) := by rw [hz, show ((y : Int) + 1 + (k : Int)) = ((y + 1 + k : Nat) : Int) by omega]; exact (Int.ofNat_tmod _ 4).symm
      have hz4 : z < 4 := by omega
      have hz4' : (z : Int) < 4 := by omega
      have hzf := hcf.out z hz4
      have hzn := hcn.out z hz4
      rw [hT.out.en z hz4] at hzn
      rcases hA : A z with _ | ⟨i, T⟩
      · rw [hA] at hzn
        have hR' : Hid (BSt A y (k + 1) wr wr) := Lib.hid ⟨rfl, fun j hj => by
          by_cases c : j = k
          · subst c; rw [← hz]; exact hA
          · exact hR j (by omega)⟩
        clear hR hA hz
        have hzn' : wr.cell? ⟨p, 6 + z, none⟩ = some (.int .i64 0) := hzn
        clear hzn
        go_wp2
        go_roundw
        case rel => exact ⟨k + 1, by omega, by go_num, hR'.out⟩
        case measure => simp [intOf]; omega
      · have e : behR A y = i := turnd_some hlt hR (hz ▸ hA)
        rw [hA] at hzn
        rw [hT.out.ef z hz4 i T hA] at hzf
        have hm : 0 < (((i :: T).length : Nat) : Int) := by simp
        have hm' : decide ((((i :: T).length : Nat) : Int) > 0) = true := by simp
        replace e := Lib.hid e
        generalize (i :: T).length = m at *
        clear hR hA hz
        go_wp2
        go_ret
        exact ⟨by rw [e.out]; rfl, rfl⟩
    · have e : k = 4 := by omega
      subst e
      have e : Hid (behR A y = -1) := Lib.hid (turnd_none hR)
      clear hR
      go_wp2
      go_ret
      exact ⟨by rw [e.out]; rfl, rfl⟩
end Wd
end Go.Proofs.YteiejjmhmmkdhaaGreat

/- The package's mill: List. -/
namespace Go.Proofs.YteiejjmhmmkdhaaGreat
set_option maxRecDepth 20000
open Go.RowKit
set_option linter.unusedVariables false
namespace Wd
/-- a row stands in the ring as it is -/
theorem in_LL {A : Mst} {x : Nat} (hx : x < 4) : ∃ X Y, LL A = X ++ (A x ++ Y) := by
  rcases (show x = 0 ∨ x = 1 ∨ x = 2 ∨ x = 3 by omega) with rfl | rfl | rfl | rfl
  · exact ⟨[], A 1 ++ (A 2 ++ A 3), rfl⟩
  · exact ⟨A 0, A 2 ++ A 3, by simp [LL]⟩
  · exact ⟨A 0 ++ A 1, A 3, by simp [LL]⟩
  · exact ⟨A 0 ++ (A 1 ++ A 2), [], by simp [LL]⟩
theorem row_next9 {A : Mst} {x : Nat} (hx : x < 4) (hn : (LL A).Nodup) {j : Nat} {i : Int} (hj : j + 1 < (A x).length) (hi : (A x)[j]? = some i) : (A x)[j + 1]? = some (nxt (LL A) i) := by
  obtain ⟨X, Y, e⟩ := in_LL (A := A) hx
  have h1 : (A x)[j + 1]? = some (A x)[j + 1] := List.getElem?_eq_getElem hj
  have e2 : A x = (A x).take j ++ i :: (A x)[j + 1] :: (A x).drop (j + 2) := by
    have h0 : (A x)[j]'(by omega) = i := by
      have := List.getElem?_eq_getElem (l := A x) (i := j) (by omega)
      rw [hi] at this
      exact (Option.some.inj this).symm
    conv => lhs; rw [← List.take_append_drop j (A x)]
    rw [List.drop_eq_getElem_cons (by omega : j < (A x).length), h0, List.drop_eq_getElem_cons hj]
  generalize (A x)[j + 1] = b at *
  rw [h1]
  congr 1
  have e3 : LL A = (X ++ (A x).take j) ++ i :: b :: ((A x).drop (j + 2) ++ Y) := by
    rw [e]; conv => lhs; rw [e2]
    simp
  rw [e3] at hn ⊢
  exact (nxt_mid hn).symm
/-- those that were told so far -/
structure LSt (w : World) (M : List Int) (j : Nat) (v : Value) (z : Int) (wr : World) : Prop where
  own : wr.ownsRow w.heap.size 3 1 v j (ints (M.take j))
  bel : Below w.heap.size w wr
  at' : j < M.length → M[j]? = some z
theorem LSt.next {w wr w1 : World} {M : List Int} {j g cap : Nat} {v : Value} {z b : Int} (h : LSt w M j v z wr) (hj : j < M.length) (hM : j + 1 < M.length → M[j + 1]? = some b)
    {c : Array Value} {t : TypeId} (hown : w1.ownsRow w.heap.size 3 1 (.slice (some ⟨g, 0, none⟩) (j + 1) cap) (j + 1) (ints (M.take j) ++ ints [z])) (hg : (wr.alloc (.cells c t)).grownBy w1 v.ownBlock) :
    LSt w M (j + 1) (.slice (some ⟨g, 0, none⟩) (j + 1) cap) b w1 := by
  refine ⟨?_, ?_, hM⟩
  · rw [List.take_add_one, h.at' hj]
    simpa [ints] using hown
  · exact (h.bel.alloc h.bel.size _).grown hg (by have := h.bel.size; simp; omega) (fun k' hk => (h.own.lt k' hk).1)
end Wd
end Go.Proofs.YteiejjmhmmkdhaaGreat
