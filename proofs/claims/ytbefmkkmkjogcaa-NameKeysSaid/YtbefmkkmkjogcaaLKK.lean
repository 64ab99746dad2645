/- The landed names keep what the laws ask. -/
import Derived.Test.YtbefmkkmkjogcaaLJ
namespace Go.Proofs.Ytbefmkkmkjogcaa
open Go.RowKit Go.Maps
set_option linter.unusedVariables false
set_option maxRecDepth 20000
namespace Wd
theorem namK : NamK where
  args b w := (kargs_c b w).mono (fun e w' h => ⟨h.1, by rw [h.2]; exact Below.refl _ _⟩)
  right b w := (right_c b w).mono (fun e w' h => ⟨h.1, by rw [h.2]; exact Below.refl _ _⟩)
  ofY b w h := kof_y b w h
  ofN b w h := kof_n b w h
theorem texK : TexK := ⟨ktext_c⟩
theorem newer_refl (F : Nat → Prop) (s : Nat) : Newer F F s := fun _ h => Or.inl h
theorem kint_c {w : World} {p : Nat} {l : List ByteArray} {F : Nat → Prop} (b : ByteArray) (h : NA w p l F) :
    Calls Try.prog 12 #[.pointer (some ⟨p, 0, none⟩), .string b] w fun e w' => ∃ F', e = .returned (.int .i64 (interI l b)) ∧ NA w' p (interL l b) F' ∧ Ch F w w' ∧ Newer F F' w.heap.size := by
  obtain ⟨m, v, h, rfl⟩ := h
  have stay : ∀ (r : Int), interI l b = r → interL l b = l → Calls Try.prog 12 #[.pointer (some ⟨p, 0, none⟩), .string b] w (fun e w' => e = .returned (.int .i64 r) ∧ Below w.heap.size w w') → Calls Try.prog 12 #[.pointer (some ⟨p, 0, none⟩), .string b] w fun e w' => ∃ F', e = .returned (.int .i64 (interI l b)) ∧ NA w' p (interL l b) F' ∧ Ch (FN p m v) w w' ∧ Newer (FN p m v) F' w.heap.size := by
    intro r hr hl P
    rw [hr, hl]
    refine P.mono ?_
    rintro e w' ⟨rfl, hb⟩
    exact ⟨_, rfl, ⟨m, v, h.keep hb, rfl⟩, below_toCh _ hb, newer_refl _ _⟩
  cases hp : posR l b with
  | some k => exact stay (k : Nat) (by unfold interI; rw [hp]) (by unfold interL; rw [hp]) (kint_had h hp)
  | none =>
    by_cases hb : 0 ≤ argsR b
    · by_cases hl : l.length < 48
      · have hm : mayAdd l b = true := by unfold mayAdd; rw [decide_eq_true hb, decide_eq_true hl]; rfl
        have e1 : interI l b = (l.length : Nat) := by unfold interI; rw [hp]; simp only; rw [if_pos hm]
        have e2 : interL l b = l ++ [b] := by unfold interL; rw [hp]; simp only; rw [if_pos hm]
        rw [e1, e2]
        refine (kint_add h hp hb rfl hl).mono ?_
        rintro e w' ⟨g1, cap, rfl, hN, hc, hg⟩
        refine ⟨_, rfl, ⟨m, _, hN, rfl⟩, hc, fun k hk => ?_⟩
        rcases hk with rfl | rfl | hk
        · exact Or.inl (Or.inl rfl)
        · exact Or.inl (Or.inr (Or.inl rfl))
        · injection hk with hk
          subst hk
          rcases hg with hg | hg
          · exact Or.inl (Or.inr (Or.inr hg))
          · exact Or.inr hg
      · have hm : mayAdd l b = false := by unfold mayAdd; rw [decide_eq_false hl, Bool.and_false]
        have hle := h.le
        exact stay (-1) (by unfold interI; rw [hp]; simp only; rw [if_neg (by rw [hm]; decide)]) (by unfold interL; rw [hp]; simp only; rw [if_neg (by rw [hm]; decide)]) (kint_full h hp hb (by omega))
    · have hm : mayAdd l b = false := by unfold mayAdd; rw [decide_eq_false hb, Bool.false_and]
      exact stay (-1) (by unfold interI; rw [hp]; simp only; rw [if_neg (by rw [hm]; decide)]) (by unfold interL; rw [hp]; simp only; rw [if_neg (by rw [hm]; decide)]) (kint_no h hp (by omega))
theorem tabK : TabK NA where
  lt h k hk := by obtain ⟨m, v, h, rfl⟩ := h; exact h.lt k hk
  keep h hb := by obtain ⟨m, v, h, rfl⟩ := h; exact ⟨m, v, h.same hb, rfl⟩
  find b h := by obtain ⟨m, v, h, rfl⟩ := h; exact kfind_c h b
  intern b h := kint_c b h
  at' i h h0 h1 := by obtain ⟨m, v, h, rfl⟩ := h; exact kat_c h i h0 h1
  len h := by obtain ⟨m, v, h, rfl⟩ := h; exact (klen_c h).mono (fun e w' h => ⟨h.1, by rw [h.2]; exact Below.refl _ _⟩)
  new := knew_c _
theorem KK : NameK NA := ⟨namK, texK, tabK⟩
end Wd
end Go.Proofs.Ytbefmkkmkjogcaa
