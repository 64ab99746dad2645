/- The landed table does what the laws ask of it. -/
import Derived.Test.YtekjengdiakaaaaUNew
import Derived.Test.YtekjengdiakaaaaUPut
namespace Go.Proofs.Ytekjengdiakaaaa
open Go.RowKit Go.Maps
set_option linter.unusedVariables false
set_option maxRecDepth 20000
namespace Wd
def TA (w : World) (p : Nat) (T : Tst) (F : Nat → Prop) : Prop :=
  ∃ m P, TP w p m T P (idsT T).length (mapOf T) ∧ Inv T ∧ (∀ k q, T k = some q → P k = q) ∧ F = FT p m
theorem mapOf_no : mapOf noT = fun _ => none := by
  funext q
  exact mapOf_none (fun k h => by cases h)
theorem ids_no : (idsT noT).length = 0 := by
  rw [idsT_def]
  simp [noT]
theorem newer_refl (F : Nat → Prop) (s : Nat) : Newer F F s := fun k h => Or.inl h
theorem ids_lt (T : Tst) : (idsT T).length < maxLen := Nat.lt_of_le_of_lt (idsT_len T) (by decide)
theorem KK : TableK TA := by
  constructor
  case lt =>
    rintro w p T F ⟨m, P, h, hI, hP, rfl⟩ k hk
    rcases hk with rfl | rfl
    · exact h.lt
    · exact h.mp.lt
  case keep =>
    rintro w w' p T F ⟨m, P, h, hI, hP, rfl⟩ hk
    exact ⟨m, P, h.same (hk p (Or.inl rfl)) (hk m (Or.inr rfl)), hI, hP, rfl⟩
  case take =>
    rintro w p T F pl ⟨m, P, h, hI, hP, rfl⟩ hp
    have hM := (mapOf_getD T pl).2
    cases ho : ofR T pl with
    | some j =>
      rw [ho] at hM
      have e1 : takeI T pl = -1 := by unfold takeI; rw [ho]; rfl
      have e2 : takeT T pl = T := by unfold takeT; rw [ho]; rfl
      rw [e1, e2]
      refine (utake_had pl hp h hM).mono ?_
      rintro e w' ⟨rfl, hb⟩
      exact ⟨_, rfl, ⟨m, P, h.keep hb, hI, hP, rfl⟩, below_toCh _ hb, newer_refl _ _⟩
    | none =>
      rw [ho] at hM
      cases hf : freeR T with
      | none =>
        have e1 : takeI T pl = -1 := by unfold takeI; rw [ho, hf]; rfl
        have e2 : takeT T pl = T := by unfold takeT; rw [ho, hf]; rfl
        rw [e1, e2]
        refine (utake_full pl hp h hM hf).mono ?_
        rintro e w' ⟨rfl, hb⟩
        exact ⟨_, rfl, ⟨m, P, h.keep hb, hI, hP, rfl⟩, below_toCh _ hb, newer_refl _ _⟩
      | some k =>
        obtain ⟨k1, k2, hk⟩ := freeR_at hf
        have e1 : takeI T pl = (k : Int) := by unfold takeI; rw [ho, hf]; rfl
        have e2 : takeT T pl = updT T k (some pl) := by unfold takeT; rw [ho, hf]; rfl
        rw [e1, e2]
        refine (utake_yes pl hp h hM hf k2 (ids_lt T)).mono ?_
        rintro e w' ⟨rfl, h', hc⟩
        rw [← ids_take k2 hk (p := pl), ← mapOf_take hI hp ho hf] at h'
        refine ⟨_, rfl, ⟨m, _, h', hI.upd k1 k2 hp (fun j _ => ofR_none hI ho j), fun j q hj => ?_, rfl⟩, hc, newer_refl _ _⟩
        unfold updT at hj
        unfold updP
        by_cases c : j = k
        · rw [if_pos c] at hj ⊢; cases hj; rfl
        · rw [if_neg c] at hj ⊢; exact hP j q hj
  case give =>
    rintro w p T F i ⟨m, P, h, hI, hP, rfl⟩ _ _
    cases hh : hasT T i
    · have e2 : giveT T i = T := by unfold giveT; rw [hh]; rfl
      rw [e2]
      refine (ugive_no i h hh).mono ?_
      rintro e w' ⟨rfl, rfl⟩
      exact ⟨_, rfl, ⟨m, P, h, hI, hP, rfl⟩, Ch.refl _ _, newer_refl _ _⟩
    · obtain ⟨k, rfl, hk, _, q, hq⟩ := hasT_some hh
      have e2 : giveT T (k : Int) = updT T k none := by unfold giveT; rw [hh, if_pos rfl]; simp
      rw [e2]
      have hPk := hP k q hq
      refine (ugive_yes h hk hh (by rw [hPk]; exact (hI.bd k q hq).2.2)).mono ?_
      rintro e w' ⟨rfl, h', hc⟩
      rw [hPk, if_pos (by rw [mapOf_some hI hq]; rfl), ← mapOf_give hI hq] at h'
      have hl := ids_give hk hq
      have e3 : (idsT T).length - 1 = (idsT (updT T k none)).length := by omega
      rw [e3] at h'
      refine ⟨_, rfl, ⟨m, P, h', hI.del k, fun j r hj => ?_, rfl⟩, hc, newer_refl _ _⟩
      unfold updT at hj
      by_cases c : j = k
      · rw [if_pos c] at hj; cases hj
      · rw [if_neg c] at hj; exact hP j r hj
  case swap =>
    rintro w p T F i j ⟨m, P, h, hI, hP, rfl⟩ _ _ _ _
    cases hh : swapB T i j
    · have e2 : swapT T i j = T := by unfold swapT; rw [hh]; rfl
      rw [e2]
      refine (uswap_no i j h hh).mono ?_
      rintro e w' ⟨rfl, rfl⟩
      exact ⟨_, rfl, ⟨m, P, h, hI, hP, rfl⟩, Ch.refl _ _, newer_refl _ _⟩
    · have hb := hh
      unfold swapB at hb
      obtain ⟨hi, hj⟩ := Bool.and_eq_true_iff.1 hb
      obtain ⟨x, rfl, hx, _, a, ha⟩ := hasT_some hi
      obtain ⟨y, rfl, hy, _, b, hb'⟩ := hasT_some hj
      rw [(swapT_at ha hb' hx hy).2]
      refine (uswap_yes h hx hy hi hj (hP x a ha) (hP y b hb') (hI.bd x a ha).2.2 (hI.bd y b hb').2.2 (by rw [mapOf_some hI hb']; rfl) ?_ (ids_lt T)).mono ?_
      · unfold updM
        by_cases c : a = b
        · rw [if_pos c]; rfl
        · rw [if_neg c, mapOf_some hI ha]; rfl
      · rintro e w' ⟨rfl, h', hc⟩
        rw [← mapOf_swap hI ha hb'] at h'
        have e1 : (idsT (updT (updT T x (some b)) y (some a))).length = (idsT T).length := by
          have e3 : ∃ r, updT T x (some b) y = some r := by
            unfold updT
            by_cases c : y = x
            · rw [if_pos c]; exact ⟨_, rfl⟩
            · rw [if_neg c]; exact ⟨_, hb'⟩
          obtain ⟨r, hr⟩ := e3
          rw [ids_put hy hr, ids_put hx ha]
        have h2 : TP w' p m (updT (updT T x (some b)) y (some a)) (updP (updP P x b) y a) (idsT (updT (updT T x (some b)) y (some a))).length (mapOf (updT (updT T x (some b)) y (some a))) := by
          rw [e1]
          refine ⟨fun k hk => ?_, h'.cs, h'.cl, h'.cm, h'.z, h'.ne, h'.mp⟩
          rw [h'.ci k hk]
          congr 2
          unfold inR updT
          by_cases c : k = y
          · rw [if_pos c, c, hb']; rfl
          · rw [if_neg c]
            by_cases d : k = x
            · rw [if_pos d, d, ha]; rfl
            · rw [if_neg d]
        refine ⟨_, rfl, ⟨m, _, h2, hI.swap ha hb', fun k r hk => ?_, rfl⟩, hc, newer_refl _ _⟩
        unfold updT at hk
        unfold updP
        by_cases c : k = y
        · rw [if_pos c] at hk ⊢; cases hk; rfl
        · rw [if_neg c] at hk ⊢
          by_cases d : k = x
          · rw [if_pos d] at hk ⊢; cases hk; rfl
          · rw [if_neg d] at hk ⊢; exact hP k r hk
  case at' =>
    rintro w p T F i ⟨m, P, h, hI, hP, rfl⟩ _ _
    exact uat_c h i hP
  case of =>
    rintro w p T F pl ⟨m, P, h, hI, hP, rfl⟩ hp
    have := uof_c h pl hp
    rw [(mapOf_getD T pl).1, (mapOf_getD T pl).2] at this
    exact this
  case ids =>
    rintro w p T F ⟨m, P, h, hI, hP, rfl⟩
    exact uids_c h
  case new =>
    intro w
    refine (unew_c w).mono ?_
    rintro e w' ⟨rfl, h, hb⟩
    refine ⟨_, _, rfl, ⟨w.heap.size, fun _ => (0, 0), ?_, Inv.no, fun k q hk => (by cases hk), rfl⟩, fun k hk => ?_, hb⟩
    · rw [ids_no, mapOf_no]; exact h
    · rcases hk with rfl | rfl <;> omega
end Wd
end Go.Proofs.Ytekjengdiakaaaa
