/- The package's mill: one cell goes from its row to the end of another. -/
import Derived.Test.YtjobeomadkaeoaaGList
namespace Go.Proofs.Ytjobeomadkaeoaa
open Go.RowKit
set_option linter.unusedVariables false
namespace Wd
/-- the ring, told from row y on -/
def tailY (D : Mst) (y : Nat) : List Int := D ((y + 1) % 4) ++ (D ((y + 2) % 4) ++ D ((y + 3) % 4))
theorem LL_rot (D : Mst) {y : Nat} (hy : y < 4) : ∃ X Y, LL D = X ++ Y ∧ D y ++ tailY D y = Y ++ X := by
  unfold LL tailY
  rcases (show y = 0 ∨ y = 1 ∨ y = 2 ∨ y = 3 by omega) with rfl | rfl | rfl | rfl
  · exact ⟨[], _, rfl, by simp⟩
  · exact ⟨D 0, _, rfl, by simp⟩
  · exact ⟨D 0 ++ D 1, D 2 ++ D 3, by simp, by simp⟩
  · exact ⟨D 0 ++ (D 1 ++ D 2), D 3, by simp, by simp⟩
theorem turnd_eq (D : Mst) {y : Nat} (hy : y < 4) : turnd D y = tailY D y ++ D y := by
  unfold turnd tailY
  rw [show (y + 4) % 4 = y by omega]
  simp
theorem tailY_up (D : Mst) {y : Nat} (hy : y < 4) (X : List Int) : tailY (upA D y X) y = tailY D y := by
  unfold tailY upA
  rw [if_neg (by omega), if_neg (by omega), if_neg (by omega)]
theorem RA.told {w : World} {q n y : Nat} {D : Mst} {FR : Nat → Prop} (hy : y < 4) (h : RA w q n (LL D) FR) : RA w q n (D y ++ tailY D y) FR := by
  obtain ⟨X, Y, e1, e2⟩ := LL_rot D hy
  rw [e1] at h; rw [e2]; exact h.rot
theorem RA.untold {w : World} {q n y : Nat} {D : Mst} {FR : Nat → Prop} (hy : y < 4) (h : RA w q n (D y ++ tailY D y) FR) : RA w q n (LL D) FR := by
  obtain ⟨X, Y, e1, e2⟩ := LL_rot D hy
  rw [e2] at h; rw [e1]; exact h.rot
/-- one is put in behind row y -/
theorem ring_in {w : World} {q n y : Nat} {B : Mst} {FR : Nat → Prop} {i : Int} (hR : RA w q n (LL B) FR) (hi : i ∉ LL B) (h0 : 0 ≤ i) (h1 : i < n) (hy : y < 4) :
    Calls Try.prog 34 #[.pointer (some ⟨q, 0, none⟩), .int .i64 i, .int .i64 (behR B y)] w fun e w' => e = .returned (.bool true) ∧ RA w' q n (LL (upA B y (B y ++ [i]))) FR ∧ Ch FR w w' := by
  have hT := hR.told hy
  have hmem : ∀ j, j ∈ LL B ↔ j ∈ B y ++ tailY B y := by
    intro j
    obtain ⟨X, Y, e1, e2⟩ := LL_rot B hy
    rw [e1, e2]; simp [or_comm]
  rw [hmem] at hi
  have hnd := hT.nd
  unfold behR
  rw [turnd_eq B hy]
  have hup : (upA B y (B y ++ [i])) y = B y ++ [i] := by simp [upA]
  rcases hE : tailY B y with _ | ⟨a, T⟩
  · rcases hU : B y with _ | ⟨a, U⟩
    · rw [hE, hU] at hT
      have := in_k i (-1) hT
      have hp : putOk n ([] ++ []) i (-1) = true := by unfold putOk; simp; omega
      rw [hp, if_pos rfl] at this
      refine this.mono ?_
      rintro e w' ⟨rfl, d1, d2⟩
      refine ⟨rfl, RA.untold hy ?_, d2⟩
      rw [show (upA B y ([] ++ [i])) y = [] ++ [i] by simp [upA], tailY_up B hy, hE]
      simpa [inL] using d1
    · rw [hE, hU] at hT
      have := in_k i a hT
      rw [hU, hE] at hi
      have hp : putOk n (a :: U ++ []) i a = true := by
        unfold putOk
        exact decide_eq_true ⟨h0, h1, hi, Or.inl (by simp)⟩
      rw [hp, if_pos rfl] at this
      refine this.mono ?_
      rintro e w' ⟨rfl, d1, d2⟩
      refine ⟨rfl, RA.untold hy ?_, d2⟩
      rw [show (upA B y (a :: U ++ [i])) y = a :: U ++ [i] by simp [upA], tailY_up B hy, hE, List.append_nil]
      rw [List.append_nil, lay_head] at d1
      exact d1.rot
  · rw [hE] at hT hi hnd
    have := in_k i a hT
    have hp : putOk n (B y ++ a :: T) i a = true := by
      unfold putOk
      exact decide_eq_true ⟨h0, h1, hi, Or.inl (by simp)⟩
    rw [hp, if_pos rfl] at this
    refine this.mono ?_
    rintro e w' ⟨rfl, d1, d2⟩
    refine ⟨rfl, RA.untold hy ?_, d2⟩
    rw [hup, tailY_up B hy, hE]
    rw [lay_tail (fun hm => (List.nodup_append.1 hnd).2.2 a hm a (by simp) rfl)] at d1
    exact d1
theorem count_up (D : Mst) {k : Nat} (hk : k < 4) (X : List Int) (a : Int) : (LL (upA D k X)).count a + (D k).count a = (LL D).count a + X.count a := by
  unfold LL upA
  rcases (show k = 0 ∨ k = 1 ∨ k = 2 ∨ k = 3 by omega) with rfl | rfl | rfl | rfl
  all_goals
    simp only [List.count_append, if_true, show ((0 : Nat) = 1) = False by simp, show ((0 : Nat) = 2) = False by simp, show ((0 : Nat) = 3) = False by simp, show ((1 : Nat) = 0) = False by simp, show ((1 : Nat) = 2) = False by simp, show ((1 : Nat) = 3) = False by simp, show ((2 : Nat) = 0) = False by simp, show ((2 : Nat) = 1) = False by simp, show ((2 : Nat) = 3) = False by simp, show ((3 : Nat) = 0) = False by simp, show ((3 : Nat) = 1) = False by simp, show ((3 : Nat) = 2) = False by simp, if_false]
    omega
/-- one goes from row x to the end of row y -/
def mvA (A : Mst) (x y : Nat) (P Q : List Int) (i : Int) : Mst := upA (upA A x (P ++ Q)) y (A y ++ [i])
section
variable {A : Mst} {x y n k : Nat} {P Q : List Int} {i : Int} {fs ns cs : Nat → Int}
theorem good_mv (h : Good n A) (hx : x < 4) (hy : y < 4) (hxy : x ≠ y) (hA : A x = P ++ i :: Q) : Good n (mvA A x y P Q i) := by
  refine List.Perm.trans ?_ h
  refine List.perm_iff_count.2 (fun a => ?_)
  show (LL (mvA A x y P Q i)).count a = (LL A).count a
  have e1 := count_up A hx (P ++ Q) a
  have e2 := count_up (upA A x (P ++ Q)) hy (A y ++ [i]) a
  rw [show (upA A x (P ++ Q)) y = A y by unfold upA; rw [if_neg (Ne.symm hxy)]] at e2
  rw [hA] at e1
  unfold mvA
  simp only [List.count_append, List.count_cons, List.count_nil] at e1 e2
  omega
theorem mem_mv (hxy : x ≠ y) (hA : A x = P ++ i :: Q) {z : Nat} {j : Int} (hj : j ≠ i) (hz : j ∈ A z) : j ∈ mvA A x y P Q i z := by
  unfold mvA upA
  by_cases c : z = y
  · subst c; rw [if_pos rfl]; simp [hz]
  · rw [if_neg c]
    by_cases d : z = x
    · subst d; rw [if_pos rfl]; rw [hA] at hz; simpa [hj] using hz
    · rw [if_neg d]; exact hz
theorem color_mv (h : Good n A) (hx : x < 4) (hy : y < 4) (hxy : x ≠ y) (hA : A x = P ++ (k : Int) :: Q) (hc : ∀ j : Nat, j < n → cs j = colorR A j) : ∀ j : Nat, j < n → upd cs k y j = colorR (mvA A x y P Q k) j := by
  intro j hj
  have hG := good_mv h hx hy hxy hA
  by_cases c : j = k
  · subst c
    rw [upd_same]
    exact (good_color hG hy (by unfold mvA upA; rw [if_pos rfl]; simp)).symm
  · rw [upd_ne _ _ c, hc j hj]
    obtain ⟨z, hz, hm, e⟩ := good_in h hj
    rw [e]
    exact (good_color hG hz (mem_mv hxy hA (by omega) hm)).symm
theorem mt_out (h : MT A fs ns) (hx : x < 4) (hn : (LL A).Nodup) (hA : A x = P ++ i :: Q) : MT (upA A x (P ++ Q)) (if P = [] then upd fs x (nxt (LL A) i) else fs) (upd ns x (ns x - 1)) := by
  refine ⟨fun k hk a T hB => ?_, fun k hk => ?_⟩
  · by_cases c : k = x
    · subst c
      simp only [upA, if_true] at hB
      rcases P with _ | ⟨b, P'⟩
      · simp only [List.nil_append] at hB hA
        rw [if_pos rfl, upd_same]
        have := row_next hx hn (j := 0) (i := i) (by rw [hA, hB]; simp) (by rw [hA]; rfl)
        rw [hA, hB] at this
        simpa using this.symm
      · rw [if_neg (by simp)]
        have hB' : b = a := by simpa using (List.cons.inj hB).1
        rw [← hB']
        exact h.ef k hk b (P' ++ i :: Q) (by rw [hA]; rfl)
    · simp only [upA, if_neg c] at hB
      have e : (if P = [] then upd fs x (nxt (LL A) i) else fs) k = fs k := by split; exact upd_ne _ _ c; rfl
      rw [e]
      exact h.ef k hk a T hB
  · by_cases c : k = x
    · subst c
      rw [upd_same, h.en k hk, hA]
      simp only [upA, if_true, List.length_append, List.length_cons]
      omega
    · rw [upd_ne _ _ c]
      simp only [upA, if_neg c]
      exact h.en k hk
theorem mt_in {B : Mst} (h : MT B fs ns) (hy : y < 4) : MT (upA B y (B y ++ [i])) (if B y = [] then upd fs y i else fs) (upd ns y (ns y + 1)) := by
  refine ⟨fun k hk a T hB => ?_, fun k hk => ?_⟩
  · by_cases c : k = y
    · subst c
      simp only [upA, if_true] at hB
      rcases hU : B k with _ | ⟨b, U⟩
      · rw [hU] at hB
        rw [if_pos rfl, upd_same]
        exact (List.cons.inj hB).1
      · rw [hU] at hB
        rw [if_neg (by simp)]
        have hB' : b = a := by simpa using (List.cons.inj hB).1
        rw [← hB']
        exact h.ef k hk b U hU
    · simp only [upA, if_neg c] at hB
      have e : (if B y = [] then upd fs y i else fs) k = fs k := by split; exact upd_ne _ _ c; rfl
      rw [e]
      exact h.ef k hk a T hB
  · by_cases c : k = y
    · subst c
      rw [upd_same, h.en k hk]
      simp only [upA, if_true, List.length_append, List.length_cons, List.length_nil]
      omega
    · rw [upd_ne _ _ c]
      simp only [upA, if_neg c]
      exact h.en k hk
end
end Wd
end Go.Proofs.Ytjobeomadkaeoaa
