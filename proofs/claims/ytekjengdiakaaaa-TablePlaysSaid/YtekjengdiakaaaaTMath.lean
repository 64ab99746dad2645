/- A map from places to identities says what the identities' places say. -/
import Derived.Test.YtekjengdiakaaaaTMap
namespace Go.Proofs.Ytekjengdiakaaaa
open Go.RowKit Go.Maps
set_option linter.unusedVariables false
namespace Wd
/-- whose a place is, as a map has it -/
def mapOf (T : Tst) : Pl → Option Int := fun q => (ofR T q).map (fun (k : Nat) => (k : Int))
theorem ofR_iff {T : Tst} (hI : Inv T) {q : Pl} {k : Nat} : ofR T q = some k ↔ T k = some q := by
  constructor
  · intro h
    have := (firstIn_some h).2.2.1
    simpa using this
  · exact ofR_at hI
theorem mapOf_some {T : Tst} (hI : Inv T) {q : Pl} {k : Nat} (h : T k = some q) : mapOf T q = some (k : Int) := by unfold mapOf; rw [ofR_at hI h]; rfl
theorem mapOf_none {T : Tst} {q : Pl} (h : ∀ k, T k ≠ some q) : mapOf T q = none := by
  have e : ofR T q = none := by
    cases g : ofR T q with
    | none => rfl
    | some k => exact absurd (by simpa using (firstIn_some g).2.2.1) (h k)
  unfold mapOf; rw [e]; rfl
theorem mapOf_out {T : Tst} (hI : Inv T) {q : Pl} (h : mapOf T q = none) : ∀ k, T k ≠ some q := by
  intro k hk
  rw [mapOf_some hI hk] at h
  cases h
theorem mapOf_getD (T : Tst) (q : Pl) : (mapOf T q).getD 0 = ofI T q ∧ (mapOf T q).isSome = (ofR T q).isSome := by
  unfold mapOf ofI
  cases ofR T q <;> exact ⟨rfl, rfl⟩
/-- two maps of places are one, if each identity's place is found in both, and no other -/
theorem mapOf_ext {T : Tst} (hI : Inv T) {M : Pl → Option Int} (h1 : ∀ k q, T k = some q → M q = some (k : Int)) (h2 : ∀ q, (∀ k, T k ≠ some q) → M q = none) : mapOf T = M := by
  funext q
  by_cases h : ∃ k, T k = some q
  · obtain ⟨k, hk⟩ := h
    rw [mapOf_some hI hk, h1 k q hk]
  · have h' : ∀ k, T k ≠ some q := fun k hk => h ⟨k, hk⟩
    rw [mapOf_none h', h2 q h']
theorem mapOf_take {T : Tst} (hI : Inv T) {p : Pl} {k : Nat} (hp : plOk p) (ho : ofR T p = none) (hf : freeR T = some k) : mapOf (updT T k (some p)) = updM (mapOf T) p (some (k : Int)) := by
  obtain ⟨k1, k2, hk⟩ := freeR_at hf
  have hn := ofR_none hI ho
  have hI' := hI.upd k1 k2 hp (fun j _ => hn j)
  refine mapOf_ext hI' (fun j q hj => ?_) (fun q hq => ?_)
  · unfold updT at hj
    unfold updM
    by_cases c : j = k
    · rw [if_pos c] at hj; cases hj; rw [if_pos rfl, c]
    · rw [if_neg c] at hj
      rw [if_neg (by rintro rfl; exact hn j hj)]
      exact mapOf_some hI hj
  · unfold updM
    by_cases c : q = p
    · subst c; exact absurd (by unfold updT; rw [if_pos rfl]) (hq k)
    · rw [if_neg c]
      exact mapOf_none (fun j hj => by
        by_cases d : j = k
        · subst d; rw [hk] at hj; cases hj
        · exact hq j (by unfold updT; rw [if_neg d]; exact hj))
theorem mapOf_give {T : Tst} (hI : Inv T) {p : Pl} {k : Nat} (hk : T k = some p) : mapOf (updT T k none) = updM (mapOf T) p none := by
  refine mapOf_ext (hI.del k) (fun j q hj => ?_) (fun q hq => ?_)
  · unfold updT at hj
    unfold updM
    by_cases c : j = k
    · rw [if_pos c] at hj; cases hj
    · rw [if_neg c] at hj
      rw [if_neg (by rintro rfl; exact c (hI.inj j k _ hj hk))]
      exact mapOf_some hI hj
  · unfold updM
    by_cases c : q = p
    · rw [if_pos c]
    · rw [if_neg c]
      exact mapOf_none (fun j hj => by
        by_cases d : j = k
        · subst d; rw [hk] at hj; cases hj; exact c rfl
        · exact hq j (by unfold updT; rw [if_neg d]; exact hj))
theorem Inv.swap {T : Tst} (hI : Inv T) {x y : Nat} {p q : Pl} (hx : T x = some p) (hy : T y = some q) : Inv (updT (updT T x (some q)) y (some p)) := by
  obtain ⟨x1, x2, hp⟩ := hI.bd x p hx
  obtain ⟨y1, y2, hq⟩ := hI.bd y q hy
  by_cases c : x = y
  · subst c
    have : q = p := by rw [hx] at hy; cases hy; rfl
    subst this
    have e : updT (updT T x (some q)) x (some q) = T := by
      funext j; unfold updT
      by_cases d : j = x
      · subst d; rw [if_pos rfl, hx]
      · rw [if_neg d, if_neg d]
    rw [e]; exact hI
  · have at' : ∀ j r, updT (updT T x (some q)) y (some p) j = some r → (j = y ∧ r = p) ∨ (j = x ∧ r = q) ∨ (j ≠ y ∧ j ≠ x ∧ T j = some r) := by
      intro j r h
      unfold updT at h
      by_cases d : j = y
      · rw [if_pos d] at h; cases h; exact Or.inl ⟨d, rfl⟩
      · rw [if_neg d] at h
        by_cases e : j = x
        · rw [if_pos e] at h; cases h; exact Or.inr (Or.inl ⟨e, rfl⟩)
        · rw [if_neg e] at h; exact Or.inr (Or.inr ⟨d, e, h⟩)
    have npq : p ≠ q := by rintro rfl; exact c (hI.inj x y _ hx hy)
    refine ⟨fun j r h => ?_, fun i j r hi hj => ?_⟩
    · rcases at' j r h with ⟨rfl, rfl⟩ | ⟨rfl, rfl⟩ | ⟨_, _, h⟩
      · exact ⟨y1, y2, hp⟩
      · exact ⟨x1, x2, hq⟩
      · exact hI.bd j r h
    · rcases at' i r hi with ⟨rfl, rfl⟩ | ⟨rfl, rfl⟩ | ⟨a1, a2, hi'⟩ <;> rcases at' j _ hj with ⟨rfl, e⟩ | ⟨rfl, e⟩ | ⟨b1, b2, hj'⟩
      · rfl
      · exact absurd e npq
      · exact absurd (hI.inj _ _ _ hj' hx) b2
      · exact absurd e.symm npq
      · rfl
      · exact absurd (hI.inj _ _ _ hj' hy) b1
      · rw [e] at hi'; exact absurd (hI.inj _ _ _ hi' hx) a2
      · rw [e] at hi'; exact absurd (hI.inj _ _ _ hi' hy) a1
      · exact hI.inj _ _ _ hi' hj'
theorem mapOf_swap {T : Tst} (hI : Inv T) {x y : Nat} {p q : Pl} (hx : T x = some p) (hy : T y = some q) : mapOf (updT (updT T x (some q)) y (some p)) = updM (updM (mapOf T) q (some (x : Int))) p (some (y : Int)) := by
  have hI' := hI.swap hx hy
  refine mapOf_ext hI' (fun j r h => ?_) (fun r h => ?_)
  · unfold updM
    unfold updT at h
    by_cases d : j = y
    · rw [if_pos d] at h; cases h; rw [if_pos rfl, d]
    · rw [if_neg d] at h
      by_cases e : j = x
      · rw [if_pos e] at h; cases h
        rw [if_neg (by rintro rfl; subst e; exact d (hI.inj _ _ _ hx hy)), if_pos rfl, e]
      · rw [if_neg e] at h
        rw [if_neg (by rintro rfl; exact e (hI.inj _ _ _ h hx)), if_neg (by rintro rfl; exact d (hI.inj _ _ _ h hy))]
        exact mapOf_some hI h
  · unfold updM
    have hp : r ≠ p := by rintro rfl; exact h y (by unfold updT; rw [if_pos rfl])
    have hq : r ≠ q := by
      rintro rfl
      by_cases d : x = y
      · subst d; rw [hx] at hy; cases hy; exact hp rfl
      · exact h x (by unfold updT; rw [if_neg d, if_pos rfl])
    rw [if_neg hp, if_neg hq]
    exact mapOf_none (fun j hj => by
      by_cases d : j = y
      · subst d; rw [hy] at hj; cases hj; exact hq rfl
      · by_cases e : j = x
        · subst e; rw [hx] at hj; cases hj; exact hp rfl
        · exact h j (by unfold updT; rw [if_neg d, if_neg e]; exact hj))
/-- how many identities there are, behind a change of one -/
theorem idsK_upd (T : Tst) (k : Nat) (v : Option Pl) : ∀ j, (idsK (updT T k v) j).length + (if k < j ∧ inR T k = true then 1 else 0) = (idsK T j).length + (if k < j ∧ v.isSome = true then 1 else 0) := by
  intro j
  induction j with
  | zero => rfl
  | succ j ih =>
    have e : ∀ T : Tst, (idsK T (j + 1)).length = (idsK T j).length + (if inR T j = true then 1 else 0) := by
      intro T
      cases h : inR T j
      · rw [idsK_out h]; simp
      · rw [idsK_in h]; simp
    rw [e, e]
    by_cases c : j = k
    · subst c
      have e1 : inR (updT T j v) j = v.isSome := by simp [inR, updT]
      rw [e1]
      rw [if_neg (show ¬ (j < j ∧ inR T j = true) by omega), if_neg (show ¬ (j < j ∧ v.isSome = true) by omega)] at ih
      have l1 : (j < j + 1) := by omega
      simp only [l1, true_and]
      omega
    · have e1 : inR (updT T k v) j = inR T j := by simp [inR, updT, c]
      rw [e1]
      have l1 : (k < j + 1) ↔ (k < j) := by omega
      simp only [l1]
      omega
theorem ids_take {T : Tst} {k : Nat} {p : Pl} (hk : k < 1024) (h : T k = none) : (idsT (updT T k (some p))).length = (idsT T).length + 1 := by
  have g : ∀ n, k < n → (idsK (updT T k (some p)) n).length = (idsK T n).length + 1 := by
    intro n hn
    have := idsK_upd T k (some p) n
    rw [if_neg (by unfold inR; rw [h]; simp), if_pos ⟨hn, rfl⟩] at this
    exact this
  exact g _ hk
theorem ids_give {T : Tst} {k : Nat} {p : Pl} (hk : k < 1024) (h : T k = some p) : (idsT (updT T k none)).length + 1 = (idsT T).length := by
  have g : ∀ n, k < n → (idsK (updT T k none) n).length + 1 = (idsK T n).length := by
    intro n hn
    have := idsK_upd T k none n
    rw [if_pos ⟨hn, by unfold inR; rw [h]; rfl⟩, if_neg (by simp)] at this
    exact this
  exact g _ hk
theorem ids_put {T : Tst} {k : Nat} {p q : Pl} (hk : k < 1024) (h : T k = some p) : (idsT (updT T k (some q))).length = (idsT T).length := by
  have g : ∀ n, k < n → (idsK (updT T k (some q)) n).length = (idsK T n).length := by
    intro n hn
    have := idsK_upd T k (some q) n
    rw [if_pos ⟨hn, by unfold inR; rw [h]; rfl⟩, if_pos ⟨hn, rfl⟩] at this
    omega
  exact g _ hk
end Wd
end Go.Proofs.Ytekjengdiakaaaa
