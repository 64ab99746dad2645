/- Texts joined: GMath, GMove, GTurn, GNew, GKK, TLaw, TInv, TMap, TMath, UBase, UOps, UNew, UPut, UKK. -/
import Derived.Test.YteiejjmhmmkdhaaGreatJ16
import Derived.StillTailTactics
import Derived.BigRegion
import Derived.OpenShut
import Derived.Deep.RegionHeld3
import Derived.Laws.Bits128
import Derived.Maps.Own
import Derived.Maps.OwnOps
import Derived.Maps.OwnSet
import Derived.DeepKeys4
import Derived.Deep.MidRow
import Derived.Carry
/- The package's mill: one cell goes from its row to the end of another. -/
namespace Go.Proofs.YteiejjmhmmkdhaaGreat
set_option maxRecDepth 20000
open Go.RowKit
set_option linter.unusedVariables false
namespace Wd
/-- the ring, told from row y on -/
def tailY (D : Mst) (y : Nat) : List Int := D ((y + 1) % 4) ++ (D ((y + 2) % 4) ++ D ((y + 3) % 4))
theorem LL_rot (D : Mst) {y : Nat} (hy : y < 4) : ∃ X Y, LL D = X ++ Y ∧ D y ++ tailY D y = Y ++ X := by
  unfold LL tailY
  rcases (show y = 0 ∨ y = 1 ∨ y = 2 ∨ y = 3 by omega) with rfl | rfl | rfl | rfl
  · exact ⟨[], _, rfl, by simp⟩
  · exact ⟨D 0, _, rfl, by simp⟩
  · exact ⟨D 0 ++ D 1, D 2 ++ D 3, by simp, by simp⟩
  · exact ⟨D 0 ++ (D 1 ++ D 2), D 3, by simp, by simp⟩
theorem turnd_eq (D : Mst) {y : Nat} (hy : y < 4) : turnd D y = tailY D y ++ D y := by
  unfold turnd tailY
  rw [show (y + 4) % 4 = y by omega]
  simp
theorem tailY_up (D : Mst) {y : Nat} (hy : y < 4) (X : List Int) : tailY (upA D y X) y = tailY D y := by
  unfold tailY upA
  rw [if_neg (by omega), if_neg (by omega), if_neg (by omega)]
theorem RA.told {w : World} {q n y : Nat} {D : Mst} {FR : Nat → Prop} (hy : y < 4) (h : RA w q n (LL D) FR) : RA w q n (D y ++ tailY D y) FR := by
  obtain ⟨X, Y, e1, e2⟩ := LL_rot D hy
  rw [e1] at h; rw [e2]; exact h.rot
theorem RA.untold {w : World} {q n y : Nat} {D : Mst} {FR : Nat → Prop} (hy : y < 4) (h : RA w q n (D y ++ tailY D y) FR) : RA w q n (LL D) FR := by
  obtain ⟨X, Y, e1, e2⟩ := LL_rot D hy
  rw [e2] at h; rw [e1]; exact h.rot
/-- one is put in behind row y -/
theorem ring_in {w : World} {q n y : Nat} {B : Mst} {FR : Nat → Prop} {i : Int} (hR : RA w q n (LL B) FR) (hi : i ∉ LL B) (h0 : 0 ≤ i) (h1 : i < n) (hy : y < 4) :
    Calls Tryz.prog 166 #[.pointer (some ⟨q, 0, none⟩), .int .i64 i, .int .i64 (behR B y)] w fun e w' => e = .returned (.bool true) ∧ RA w' q n (LL (upA B y (B y ++ [i]))) FR ∧ Ch9 FR w w' := by
  have hT := hR.told hy
  have hmem : ∀ j, j ∈ LL B ↔ j ∈ B y ++ tailY B y := by
    intro j
    obtain ⟨X, Y, e1, e2⟩ := LL_rot B hy
    rw [e1, e2]; simp [or_comm]
  rw [hmem] at hi
  have hnd := hT.nd
  unfold behR
  rw [turnd_eq B hy]
  have hup : (upA B y (B y ++ [i])) y = B y ++ [i] := by simp [upA]
  rcases hE : tailY B y with _ | ⟨a, T⟩
  · rcases hU : B y with _ | ⟨a, U⟩
    · rw [hE, hU] at hT
      have := in_k i (-1) hT
      have hp : putOk n ([] ++ []) i (-1) = true := by unfold putOk; simp; omega
      rw [hp, if_pos rfl] at this
      refine this.mono ?_
      rintro e w' ⟨rfl, d1, d2⟩
      refine ⟨rfl, RA.untold hy ?_, d2⟩
      rw [show (upA B y ([] ++ [i])) y = [] ++ [i] by simp [upA], tailY_up B hy, hE]
      simpa [inL] using d1
    · rw [hE, hU] at hT
      have := in_k i a hT
      rw [hU, hE] at hi
      have hp : putOk n (a :: U ++ []) i a = true := by
        unfold putOk
        exact decide_eq_true ⟨h0, h1, hi, Or.inl (by simp)⟩
      rw [hp, if_pos rfl] at this
      refine this.mono ?_
      rintro e w' ⟨rfl, d1, d2⟩
      refine ⟨rfl, RA.untold hy ?_, d2⟩
      rw [show (upA B y (a :: U ++ [i])) y = a :: U ++ [i] by simp [upA], tailY_up B hy, hE, List.append_nil]
      rw [List.append_nil, lay_head] at d1
      exact d1.rot
  · rw [hE] at hT hi hnd
    have := in_k i a hT
    have hp : putOk n (B y ++ a :: T) i a = true := by
      unfold putOk
      exact decide_eq_true ⟨h0, h1, hi, Or.inl (by simp)⟩
    rw [hp, if_pos rfl] at this
    refine this.mono ?_
    rintro e w' ⟨rfl, d1, d2⟩
    refine ⟨rfl, RA.untold hy ?_, d2⟩
    rw [hup, tailY_up B hy, hE]
    rw [lay_tail (fun hm => (List.nodup_append.1 hnd).2.2 a hm a (by simp) rfl)] at d1
    exact d1
theorem count_up (D : Mst) {k : Nat} (hk : k < 4) (X : List Int) (a : Int) : (LL (upA D k X)).count a + (D k).count a = (LL D).count a + X.count a := by
  unfold LL upA
  rcases (show k = 0 ∨ k = 1 ∨ k = 2 ∨ k = 3 by omega) with rfl | rfl | rfl | rfl
  all_goals
    simp only [List.count_append, if_true, show ((0 : Nat) = 1) = False by simp, show ((0 : Nat) = 2) = False by simp, show ((0 : Nat) = 3) = False by simp, show ((1 : Nat) = 0) = False by simp, show ((1 : Nat) = 2) = False by simp, show ((1 : Nat) = 3) = False by simp, show ((2 : Nat) = 0) = False by simp, show ((2 : Nat) = 1) = False by simp, show ((2 : Nat) = 3) = False by simp, show ((3 : Nat) = 0) = False by simp, show ((3 : Nat) = 1) = False by simp, show ((3 : Nat) = 2) = False by simp, if_false]
    omega
/-- one goes from row x to the end of row y -/
def mvA (A : Mst) (x y : Nat) (P Q : List Int) (i : Int) : Mst := upA (upA A x (P ++ Q)) y (A y ++ [i])
section
variable {A : Mst} {x y n k : Nat} {P Q : List Int} {i : Int} {fs ns cs : Nat → Int}
theorem good_mv (h : Good n A) (hx : x < 4) (hy : y < 4) (hxy : x ≠ y) (hA : A x = P ++ i :: Q) : Good n (mvA A x y P Q i) := by
  refine List.Perm.trans ?_ h
  refine List.perm_iff_count.2 (fun a => ?_)
  show (LL (mvA A x y P Q i)).count a = (LL A).count a
  have e1 := count_up A hx (P ++ Q) a
  have e2 := count_up (upA A x (P ++ Q)) hy (A y ++ [i]) a
  rw [show (upA A x (P ++ Q)) y = A y by unfold upA; rw [if_neg (Ne.symm hxy)]] at e2
  rw [hA] at e1
  unfold mvA
  simp only [List.count_append, List.count_cons, List.count_nil] at e1 e2
  omega
theorem mem_mv (hxy : x ≠ y) (hA : A x = P ++ i :: Q) {z : Nat} {j : Int} (hj : j ≠ i) (hz : j ∈ A z) : j ∈ mvA A x y P Q i z := by
  unfold mvA upA
  by_cases c : z = y
  · subst c; rw [if_pos rfl]; simp [hz]
  · rw [if_neg c]
    by_cases d : z = x
    · subst d; rw [if_pos rfl]; rw [hA] at hz; simpa [hj] using hz
    · rw [if_neg d]; exact hz
theorem color_mv (h : Good n A) (hx : x < 4) (hy : y < 4) (hxy : x ≠ y) (hA : A x = P ++ (k : Int) :: Q) (hc : ∀ j : Nat, j < n → cs j = colorR A j) : ∀ j : Nat, j < n → upd cs k y j = colorR (mvA A x y P Q k) j := by
  intro j hj
  have hG := good_mv h hx hy hxy hA
  by_cases c : j = k
  · subst c
    rw [upd_same]
    exact (good_color hG hy (by unfold mvA upA; rw [if_pos rfl]; simp)).symm
  · rw [upd_ne _ _ c, hc j hj]
    obtain ⟨z, hz, hm, e⟩ := good_in h hj
    rw [e]
    exact (good_color hG hz (mem_mv hxy hA (by omega) hm)).symm
theorem mt_out (h : MT A fs ns) (hx : x < 4) (hn : (LL A).Nodup) (hA : A x = P ++ i :: Q) : MT (upA A x (P ++ Q)) (if P = [] then upd fs x (nxt (LL A) i) else fs) (upd ns x (ns x - 1)) := by
  refine ⟨fun k hk a T hB => ?_, fun k hk => ?_⟩
  · by_cases c : k = x
    · subst c
      simp only [upA, if_true] at hB
      rcases P with _ | ⟨b, P'⟩
      · simp only [List.nil_append] at hB hA
        rw [if_pos rfl, upd_same]
        have := row_next9 hx hn (j := 0) (i := i) (by rw [hA, hB]; simp) (by rw [hA]; rfl)
        rw [hA, hB] at this
        simpa using this.symm
      · rw [if_neg (by simp)]
        have hB' : b = a := by simpa using (List.cons.inj hB).1
        rw [← hB']
        exact h.ef k hk b (P' ++ i :: Q) (by rw [hA]; rfl)
    · simp only [upA, if_neg c] at hB
      have e : (if P = [] then upd fs x (nxt (LL A) i) else fs) k = fs k := by split; exact upd_ne _ _ c; rfl
      rw [e]
      exact h.ef k hk a T hB
  · by_cases c : k = x
    · subst c
      rw [upd_same, h.en k hk, hA]
      simp only [upA, if_true, List.length_append, List.length_cons]
      omega
    · rw [upd_ne _ _ c]
      simp only [upA, if_neg c]
      exact h.en k hk
theorem mt_in {B : Mst} (h : MT B fs ns) (hy : y < 4) : MT (upA B y (B y ++ [i])) (if B y = [] then upd fs y i else fs) (upd ns y (ns y + 1)) := by
  refine ⟨fun k hk a T hB => ?_, fun k hk => ?_⟩
  · by_cases c : k = y
    · subst c
      simp only [upA, if_true] at hB
      rcases hU : B k with _ | ⟨b, U⟩
      · rw [hU] at hB
        rw [if_pos rfl, upd_same]
        exact (List.cons.inj hB).1
      · rw [hU] at hB
        rw [if_neg (by simp)]
        have hB' : b = a := by simpa using (List.cons.inj hB).1
        rw [← hB']
        exact h.ef k hk b U hU
    · simp only [upA, if_neg c] at hB
      have e : (if B y = [] then upd fs y i else fs) k = fs k := by split; exact upd_ne _ _ c; rfl
      rw [e]
      exact h.ef k hk a T hB
  · by_cases c : k = y
    · subst c
      rw [upd_same, h.en k hk]
      simp only [upA, if_true, List.length_append, List.length_cons, List.length_nil]
      omega
    · rw [upd_ne _ _ c]
      simp only [upA, if_neg c]
      exact h.en k hk
end
end Wd
end Go.Proofs.YteiejjmhmmkdhaaGreat

/- The package's mill: one cell goes from its row to the end of another. -/
namespace Go.Proofs.YteiejjmhmmkdhaaGreat
set_option maxRecDepth 20000
open Go.RowKit
set_option linter.unusedVariables false
namespace Wd
set_option maxHeartbeats 8000000 in
theorem gmove_c {w : World} {p n k x y : Nat} {A : Mst} {F : Nat → Prop} {P Q : List Int} (h : MA w p n A F) (hx : x < 4) (hy : y < 4) (hxy : x ≠ y) (hA : A x = P ++ (k : Int) :: Q) :
    Calls Tryz.prog 161 #[.pointer (some ⟨p, 0, none⟩), .int .i64 (k : Int), .int .i64 (y : Int)] w fun e w' => e = .returned (.tuple #[]) ∧ MA w' p n (mvA A x y P Q k) F ∧ Ch9 F w w' := by
  obtain ⟨q, gc, FR, cs, fs, ns, rfl, hS, hT, hC, hG, h1, h2⟩ := h
  have hm : (k : Int) ∈ A x := by rw [hA]; simp
  have hkn : k < n := by have := (good_mem hG).1 (mem_LL.2 ⟨x, hx, hm⟩); omega
  have hO := Lib.hid (mid_out hG hx hA)
  have eBy : Hid ((upA A x (P ++ Q)) y = A y) := Lib.hid (by unfold upA; rw [if_neg (Ne.symm hxy)])
  have eny : Hid (upd ns x (ns x - 1) y = ns y) := Lib.hid (upd_ne _ _ (Ne.symm hxy))
  have hk0 : (0 : Int) ≤ k := by omega
  have hk1 : (k : Int) < n := by omega
  have hni : Hid ((k : Int) ∉ LL (upA A x (P ++ Q))) := Lib.hid (by
    rw [← hO.out]
    intro hi
    exact ((mem_outL (good_nd hG) (mem_LL.2 ⟨x, hx, hm⟩) _).1 hi).2 rfl)
  have T1 := Lib.hid (mt_out hT hx (good_nd hG) hA)
  have c0 := hS.c0
  have c1 := hS.c1
  have hcol := hS.cc k hkn
  rw [hC k hkn, good_color hG hx hm] at hcol
  have hf := hS.cf x hx
  have zf := hS.zp (2 + x)
  have hx4 : (x : Int) < 4 := by omega
  have hy4 : (y : Int) < 4 := by omega
  have nx0 : 1 ≤ ns x := by rw [hT.en x hx, hA]; simp; omega
  have nx1 : ns x ≤ 512 := by rw [hT.en x hx]; have := good_le hG x hx; omega
  have ny0 : 0 ≤ ns y := by rw [hT.en y hy]; omega
  have ny1 : ns y ≤ 512 := by rw [hT.en y hy]; have := good_le hG y hy; omega
  have wx : IntKind.i64.wrap (ns x - 1) = ns x - 1 := by rw [IntKind.wrap_i64]; omega
  have wy : IntKind.i64.wrap (ns y + 1) = ns y + 1 := by rw [IntKind.wrap_i64]; omega
  have hB' : (A y = [] ∧ ns y = 0) ∨ (A y ≠ [] ∧ (ns y == 0) = false) := by
    rcases hE : A y with _ | ⟨a, U⟩
    · exact Or.inl ⟨rfl, by rw [hT.en y hy, hE]; rfl⟩
    · exact Or.inr ⟨by simp, by rw [hT.en y hy, hE]; simp; omega⟩
  have hR := Lib.hid hS.ring
  have hRd := Lib.hid hS.drew.ring
  replace hC := Lib.hid hC
  replace hG := Lib.hid hG
  replace hm := Lib.hid hm
  by_cases hP : P = []
  · have ef : fs x = k := hT.ef x hx k Q (by rw [hA, hP]; rfl)
    rw [ef] at hf
    rw [if_pos hP] at T1
    replace hS := Lib.hid hS
    replace hT := Lib.hid hT
    replace hP := Lib.hid hP
    replace hA := Lib.hid hA
    clear ef
    go_enter Tryz.func161, Tryz.ntmps161
    go_wp2
    refine wp_region_still_tail 11 (by kernel_rfl) (by kernel_rfl) ?_
    simp only [List.take_succ_cons, List.take_zero, List.drop_succ_cons, List.drop_zero]
    iterate 7 still_step
    still_call (next_k _ hRd.out)
    iterate 3 still_step
    refine wpStill_nil ?_
    have S0 := hS.out.drew
    have C0 := (Ch9.refl (FM p gc FR) w).drew
    change wpList _ _ _ _ _ w.drew
    generalize w.drew = w0 at S0 C0 ⊢
    clear c0 c1 hcol hf zf hS hR hRd
    have hf := S0.cf x hx
    have zf := S0.zp (2 + x)
    replace S0 := Lib.hid S0
    replace C0 := Lib.hid C0
    go_wp2
    have S1 := S0.out.setF hx (nxt (LL A) k)
    have C1 := C0.out.set ⟨p, 2 + x, none⟩ (Or.inl rfl) (.int .i64 (nxt (LL A) k))
    generalize w0.setCell ⟨p, 2 + x, none⟩ (.int .i64 (nxt (LL A) k)) = w1 at S1 C1 ⊢
    clear hf zf S0 C0
    have n1 := S1.cn x hx
    have z1 := S1.zp (6 + x)
    replace S1 := Lib.hid S1
    replace C1 := Lib.hid C1
    go_region
    have S2 := (S1.out.setN hx (ns x - 1)).drew
    have C2 := (C1.out.set ⟨p, 6 + x, none⟩ (Or.inl rfl) (.int .i64 (ns x - 1))).drew
    generalize (w1.setCell ⟨p, 6 + x, none⟩ (.int .i64 (ns x - 1))).drew = w2 at S2 C2 ⊢
    clear n1 z1 S1 C1
    have c2 := S2.c0
    have r2 := Lib.hid S2.ring
    replace S2 := Lib.hid S2
    replace C2 := Lib.hid C2
    go_wp2_with (first | (go_at_call 165; ((with_reducible refine (out_k _ r2.out).mono ?_); rintro e w3 ⟨he, d1, d2⟩; subst he; rw [hO.out] at d1; have S3 := S2.out.rung h1 d1 d2; have C3 := Lib.hid (C2.out.trans (d2.mono (fun j hj => Or.inr (Or.inr hj)))); clear d1 d2 c2 r2 S2 C2; have c3 := S3.c0; have S3d := Lib.hid S3.drew; have r3 := Lib.hid S3.drew.ring; replace S3 := Lib.hid S3)))
    refine wp_region_still_tail 8 (by kernel_rfl) (by kernel_rfl) ?_
    simp only [List.take_succ_cons, List.take_zero, List.drop_succ_cons, List.drop_zero]
    iterate 7 still_step
    still_call (gbehind_c hy S3d.out T1.out)
    refine wpStill_nil ?_
    change wpList _ _ _ _ _ w3.drew
    rcases hB' with ⟨hB, e0⟩ | ⟨hB, e0⟩
    · replace hB := Lib.hid hB
      go_wp2_with (first | (go_at_call 166; ((with_reducible refine (ring_in r3.out hni.out hk0 hk1 hy).mono ?_); rintro e w4 ⟨he, d1, d2⟩; subst he; rw [eBy.out] at d1; have S4 := S3d.out.rung h1 d1 d2; have C4 := Lib.hid (C3.out.drew.trans (d2.mono (fun j hj => Or.inr (Or.inr hj)))); clear d1 d2 c3 r3 S3 S3d C3; have n4 := S4.cn y hy; rw [eny.out, e0] at n4; have f4 := S4.cf y hy; have z4 := S4.zp (2 + y); replace S4 := Lib.hid S4)))
      have S5 := S4.out.setF hy k
      have C5 := C4.out.set ⟨p, 2 + y, none⟩ (Or.inl rfl) (.int .i64 k)
      generalize w4.setCell ⟨p, 2 + y, none⟩ (.int .i64 k) = w5 at S5 C5 ⊢
      clear n4 f4 z4 S4 C4
      have n5 := S5.cn y hy
      have z5 := S5.zp (6 + y)
      rw [eny.out, e0] at n5
      replace S5 := Lib.hid S5
      replace C5 := Lib.hid C5
      go_region
      have S6 := (S5.out.setN hy (1)).drew
      have C6 := (C5.out.set ⟨p, 6 + y, none⟩ (Or.inl rfl) (.int .i64 (1))).drew
      generalize (w5.setCell ⟨p, 6 + y, none⟩ (.int .i64 (1))).drew = w6 at S6 C6 ⊢
      clear n5 z5 S5 C5
      have c6 := S6.c1
      have f6 := S6.cc k hkn
      have z6 := S6.zc k
      replace S6 := Lib.hid S6
      replace C6 := Lib.hid C6
      go_wp2
      go_end0
      refine ⟨rfl, ⟨q, gc, FR, _, _, _, rfl, S6.out.setC hkn y, ?_, color_mv hG.out hx hy hxy hA.out hC.out, good_mv hG.out hx hy hxy hA.out, h1, h2⟩, C6.out.set _ (Or.inr (Or.inl rfl)) _⟩
      have T2 := mt_in (i := (k : Int)) T1.out hy
      rw [eBy.out, if_pos hB.out, eny.out, e0] at T2
      exact T2
    · replace hB := Lib.hid hB
      go_wp2_with (first | (go_at_call 166; ((with_reducible refine (ring_in r3.out hni.out hk0 hk1 hy).mono ?_); rintro e w4 ⟨he, d1, d2⟩; subst he; rw [eBy.out] at d1; have S4 := S3d.out.rung h1 d1 d2; have C4 := Lib.hid (C3.out.drew.trans (d2.mono (fun j hj => Or.inr (Or.inr hj)))); clear d1 d2 c3 r3 S3 S3d C3; have n4 := S4.cn y hy; rw [eny.out] at n4; have f4 := S4.cf y hy; have z4 := S4.zp (2 + y); replace S4 := Lib.hid S4)))
      have S5 := S4.out
      have C5 := C4.out
      clear f4 z4 n4 S4 C4
      have n5 := S5.cn y hy
      have z5 := S5.zp (6 + y)
      rw [eny.out] at n5
      replace S5 := Lib.hid S5
      replace C5 := Lib.hid C5
      go_region
      have S6 := (S5.out.setN hy (ns y + 1)).drew
      have C6 := (C5.out.set ⟨p, 6 + y, none⟩ (Or.inl rfl) (.int .i64 (ns y + 1))).drew
      generalize (w4.setCell ⟨p, 6 + y, none⟩ (.int .i64 (ns y + 1))).drew = w6 at S6 C6 ⊢
      clear n5 z5 S5 C5
      have c6 := S6.c1
      have f6 := S6.cc k hkn
      have z6 := S6.zc k
      replace S6 := Lib.hid S6
      replace C6 := Lib.hid C6
      go_wp2
      go_end0
      refine ⟨rfl, ⟨q, gc, FR, _, _, _, rfl, S6.out.setC hkn y, ?_, color_mv hG.out hx hy hxy hA.out hC.out, good_mv hG.out hx hy hxy hA.out, h1, h2⟩, C6.out.set _ (Or.inr (Or.inl rfl)) _⟩
      have T2 := mt_in (i := (k : Int)) T1.out hy
      rw [eBy.out, if_neg hB.out, eny.out] at T2
      exact T2
  · have ef : (fs x == (k : Int)) = false := by
      rcases P with _ | ⟨b, P'⟩
      · exact absurd rfl hP
      · rw [hT.ef x hx b (P' ++ (k : Int) :: Q) (by rw [hA]; rfl)]
        have hn : (A x).Nodup := by
          obtain ⟨X, Y, e⟩ := in_LL (A := A) hx
          have := good_nd hG.out
          rw [show A 0 ++ (A 1 ++ (A 2 ++ A 3)) = LL A from rfl, e] at this
          exact (List.nodup_append.1 (List.nodup_append.1 this).2.1).1
        rw [hA] at hn
        have : b ≠ (k : Int) := fun e => (List.nodup_append.1 hn).2.2 b (by simp) k (by simp) e
        simpa using this
    rw [if_neg hP] at T1
    have S1 := hS
    have C1 := Ch9.refl (FM p gc FR) w
    replace hT := Lib.hid hT
    replace hP := Lib.hid hP
    replace hA := Lib.hid hA
    clear hR hRd hS
    go_enter Tryz.func161, Tryz.ntmps161
    have n1 := S1.cn x hx
    have z1 := S1.zp (6 + x)
    replace S1 := Lib.hid S1
    replace C1 := Lib.hid C1
    go_wp2
    clear c0 c1 hcol hf zf ef
    go_region
    have S2 := (S1.out.setN hx (ns x - 1)).drew
    have C2 := (C1.out.set ⟨p, 6 + x, none⟩ (Or.inl rfl) (.int .i64 (ns x - 1))).drew
    generalize (w.setCell ⟨p, 6 + x, none⟩ (.int .i64 (ns x - 1))).drew = w2 at S2 C2 ⊢
    clear n1 z1 S1 C1
    have c2 := S2.c0
    have r2 := Lib.hid S2.ring
    replace S2 := Lib.hid S2
    replace C2 := Lib.hid C2
    go_wp2_with (first | (go_at_call 165; ((with_reducible refine (out_k _ r2.out).mono ?_); rintro e w3 ⟨he, d1, d2⟩; subst he; rw [hO.out] at d1; have S3 := S2.out.rung h1 d1 d2; have C3 := Lib.hid (C2.out.trans (d2.mono (fun j hj => Or.inr (Or.inr hj)))); clear d1 d2 c2 r2 S2 C2; have c3 := S3.c0; have S3d := Lib.hid S3.drew; have r3 := Lib.hid S3.drew.ring; replace S3 := Lib.hid S3)))
    refine wp_region_still_tail 8 (by kernel_rfl) (by kernel_rfl) ?_
    simp only [List.take_succ_cons, List.take_zero, List.drop_succ_cons, List.drop_zero]
    iterate 7 still_step
    still_call (gbehind_c hy S3d.out T1.out)
    refine wpStill_nil ?_
    change wpList _ _ _ _ _ w3.drew
    rcases hB' with ⟨hB, e0⟩ | ⟨hB, e0⟩
    · replace hB := Lib.hid hB
      go_wp2_with (first | (go_at_call 166; ((with_reducible refine (ring_in r3.out hni.out hk0 hk1 hy).mono ?_); rintro e w4 ⟨he, d1, d2⟩; subst he; rw [eBy.out] at d1; have S4 := S3d.out.rung h1 d1 d2; have C4 := Lib.hid (C3.out.drew.trans (d2.mono (fun j hj => Or.inr (Or.inr hj)))); clear d1 d2 c3 r3 S3 S3d C3; have n4 := S4.cn y hy; rw [eny.out, e0] at n4; have f4 := S4.cf y hy; have z4 := S4.zp (2 + y); replace S4 := Lib.hid S4)))
      have S5 := S4.out.setF hy k
      have C5 := C4.out.set ⟨p, 2 + y, none⟩ (Or.inl rfl) (.int .i64 k)
      generalize w4.setCell ⟨p, 2 + y, none⟩ (.int .i64 k) = w5 at S5 C5 ⊢
      clear n4 f4 z4 S4 C4
      have n5 := S5.cn y hy
      have z5 := S5.zp (6 + y)
      rw [eny.out, e0] at n5
      replace S5 := Lib.hid S5
      replace C5 := Lib.hid C5
      go_region
      have S6 := (S5.out.setN hy (1)).drew
      have C6 := (C5.out.set ⟨p, 6 + y, none⟩ (Or.inl rfl) (.int .i64 (1))).drew
      generalize (w5.setCell ⟨p, 6 + y, none⟩ (.int .i64 (1))).drew = w6 at S6 C6 ⊢
      clear n5 z5 S5 C5
      have c6 := S6.c1
      have f6 := S6.cc k hkn
      have z6 := S6.zc k
      replace S6 := Lib.hid S6
      replace C6 := Lib.hid C6
      go_wp2
      go_end0
      refine ⟨rfl, ⟨q, gc, FR, _, _, _, rfl, S6.out.setC hkn y, ?_, color_mv hG.out hx hy hxy hA.out hC.out, good_mv hG.out hx hy hxy hA.out, h1, h2⟩, C6.out.set _ (Or.inr (Or.inl rfl)) _⟩
      have T2 := mt_in (i := (k : Int)) T1.out hy
      rw [eBy.out, if_pos hB.out, eny.out, e0] at T2
      exact T2
    · replace hB := Lib.hid hB
      go_wp2_with (first | (go_at_call 166; ((with_reducible refine (ring_in r3.out hni.out hk0 hk1 hy).mono ?_); rintro e w4 ⟨he, d1, d2⟩; subst he; rw [eBy.out] at d1; have S4 := S3d.out.rung h1 d1 d2; have C4 := Lib.hid (C3.out.drew.trans (d2.mono (fun j hj => Or.inr (Or.inr hj)))); clear d1 d2 c3 r3 S3 S3d C3; have n4 := S4.cn y hy; rw [eny.out] at n4; have f4 := S4.cf y hy; have z4 := S4.zp (2 + y); replace S4 := Lib.hid S4)))
      have S5 := S4.out
      have C5 := C4.out
      clear f4 z4 n4 S4 C4
      have n5 := S5.cn y hy
      have z5 := S5.zp (6 + y)
      rw [eny.out] at n5
      replace S5 := Lib.hid S5
      replace C5 := Lib.hid C5
      go_region
      have S6 := (S5.out.setN hy (ns y + 1)).drew
      have C6 := (C5.out.set ⟨p, 6 + y, none⟩ (Or.inl rfl) (.int .i64 (ns y + 1))).drew
      generalize (w4.setCell ⟨p, 6 + y, none⟩ (.int .i64 (ns y + 1))).drew = w6 at S6 C6 ⊢
      clear n5 z5 S5 C5
      have c6 := S6.c1
      have f6 := S6.cc k hkn
      have z6 := S6.zc k
      replace S6 := Lib.hid S6
      replace C6 := Lib.hid C6
      go_wp2
      go_end0
      refine ⟨rfl, ⟨q, gc, FR, _, _, _, rfl, S6.out.setC hkn y, ?_, color_mv hG.out hx hy hxy hA.out hC.out, good_mv hG.out hx hy hxy hA.out, h1, h2⟩, C6.out.set _ (Or.inr (Or.inl rfl)) _⟩
      have T2 := mt_in (i := (k : Int)) T1.out hy
      rw [eBy.out, if_neg hB.out, eny.out] at T2
      exact T2
end Wd
end Go.Proofs.YteiejjmhmmkdhaaGreat

/- The package's mill: turn, Alloc, Scan, Shade, Flip. -/
namespace Go.Proofs.YteiejjmhmmkdhaaGreat
set_option maxRecDepth 20000
open Go.RowKit
set_option linter.unusedVariables false
namespace Wd
theorem MA.lt {w : World} {p n : Nat} {A : Mst} {F : Nat → Prop} (h : MA w p n A F) : ∀ k, F k → k < w.heap.size := by
  obtain ⟨q, gc, FR, cs, fs, ns, rfl, hS, hT, hC, hG, h1, h2⟩ := h
  exact hS.lt h1
theorem MA.keep {w w' : World} {p n : Nat} {A : Mst} {F : Nat → Prop} (h : MA w p n A F) (hk : ∀ k, F k → w'.heap[k]? = w.heap[k]?) : MA w' p n A F := by
  obtain ⟨q, gc, FR, cs, fs, ns, rfl, hS, hT, hC, hG, h1, h2⟩ := h
  exact ⟨q, gc, FR, cs, fs, ns, rfl, hS.same hk, hT, hC, hG, h1, h2⟩
theorem MA.below {w w' : World} {p n : Nat} {A : Mst} {F : Nat → Prop} (h : MA w p n A F) (b : Below w.heap.size w w') : MA w' p n A F := h.keep (fun k hk => b.block k (h.lt k hk))
theorem MA.good {w : World} {p n : Nat} {A : Mst} {F : Nat → Prop} (h : MA w p n A F) : Good n A ∧ n ≤ 512 := by
  obtain ⟨q, gc, FR, cs, fs, ns, rfl, hS, hT, hC, hG, h1, h2⟩ := h
  exact ⟨hG, h2⟩
/-- the first of row x becomes the last of row y -/
theorem gturn_k {w : World} {p n x y : Nat} {A : Mst} {F : Nat → Prop} (h : MA w p n A F) (hx : x < 4) (hy : y < 4) (hxy : x ≠ y) :
    Calls Tryz.prog 155 #[.pointer (some ⟨p, 0, none⟩), .int .i64 (x : Int), .int .i64 (y : Int)] w fun e w' => e = .returned (.int .i64 (firstR A x)) ∧ MA w' p n (firstA A x y) F ∧ Ch9 F w w' := by
  have hx4 : (x : Int) < 4 := by omega
  have hM := Lib.hid h
  obtain ⟨q, gc, FR, cs, fs, ns, rfl, hS, hT, hC, hG, h1, h2⟩ := h
  have hn := hS.cn x hx
  have hf := hS.cf x hx
  rw [hT.en x hx] at hn
  rcases hA : A x with _ | ⟨i, T⟩
  · have e1 : firstR A x = -1 := by unfold firstR; rw [hA]
    have e2 : firstA A x y = A := by unfold firstA; rw [hA]
    rw [e1, e2]
    rw [hA] at hn
    have hn' : w.cell? ⟨p, 6 + x, none⟩ = some (.int .i64 0) := hn
    clear e1 e2 hn hS hT hC hG h1 h2 hA
    go_enter Tryz.func155, Tryz.ntmps155
    go_wp2
    go_ret
    exact ⟨rfl, hM.out, Ch9.refl _ _⟩
  · have hm : i ∈ A x := by rw [hA]; simp
    have hi := (good_mem hG).1 (mem_LL.2 ⟨x, hx, hm⟩)
    obtain ⟨k, rfl⟩ : ∃ k : Nat, i = k := ⟨i.toNat, by omega⟩
    have e1 : firstR A x = k := by unfold firstR; rw [hA]
    have e2 : firstA A x y = mvA A x y [] T k := by unfold firstA mvA; rw [hA]; rfl
    rw [e1, e2]
    have P0 := Lib.hid (gmove_c (P := []) hM.out hx hy hxy hA)
    rw [hT.ef x hx k T hA] at hf
    have n0 : (((A x).length : Int) == 0) = false := by rw [hA]; simp; omega
    generalize (A x).length = m at *
    clear e1 e2 hS hT hC hG h1 h2 hA hm hi
    go_enter Tryz.func155, Tryz.ntmps155
    go_wp2_with (first | (go_at_call 161; ((with_reducible refine P0.out.mono ?_); rintro e w' ⟨he, d1, d2⟩; subst he)))
    go_ret
    exact ⟨rfl, d1, d2⟩
theorem galloc_k {w : World} {p n : Nat} {A : Mst} {F : Nat → Prop} (h : MA w p n A F) :
    Calls Tryz.prog 150 #[.pointer (some ⟨p, 0, none⟩)] w fun e w' => e = .returned (.int .i64 (firstR A 0)) ∧ MA w' p n (firstA A 0 1) F ∧ Ch9 F w w' := by
  have P0 : Hid (Calls Tryz.prog 155 #[.pointer (some ⟨p, 0, none⟩), .int .i64 0, .int .i64 1] w fun e w' => e = .returned (.int .i64 (firstR A 0)) ∧ MA w' p n (firstA A 0 1) F ∧ Ch9 F w w') := Lib.hid (gturn_k h (x := 0) (y := 1) (by omega) (by omega) (by omega))
  clear h
  go_enter Tryz.func150, Tryz.ntmps150
  go_wp2_with (first | (go_at_call 155; ((with_reducible refine P0.out.mono ?_); rintro e w' ⟨he, d1, d2⟩; subst he)))
  go_ret
  exact ⟨rfl, d1, d2⟩
theorem filter_mid {P Q : List Int} {i : Int} (h : (P ++ i :: Q).Nodup) : (P ++ i :: Q).filter (· ≠ i) = P ++ Q := by
  have n1 := List.nodup_append.1 h
  have hp : ∀ a ∈ P, decide (a ≠ i) = true := fun a ha => by simpa using n1.2.2 a ha i (by simp)
  have hq : ∀ a ∈ Q, decide (a ≠ i) = true := fun a ha => by
    have := (List.nodup_cons.1 n1.2.1).1
    have : a ≠ i := fun e => this (e ▸ ha)
    simpa using this
  rw [List.filter_append, List.filter_cons, List.filter_eq_self.2 hp, List.filter_eq_self.2 hq]
  simp
theorem gshade_k {w : World} {p n : Nat} {A : Mst} {F : Nat → Prop} (i : Int) (h : MA w p n A F) :
    Calls Tryz.prog 163 #[.pointer (some ⟨p, 0, none⟩), .int .i64 i] w fun e w' => e = .returned (.bool (decide (colorR A i = 3))) ∧ MA w' p n (shadeA A i) F ∧ Ch9 F w w' := by
  have P0 := Lib.hid (gcolor_k i h)
  by_cases hc : colorR A i = 3
  · have hm := colorR_in hc
    obtain ⟨P, Q, hA⟩ := List.append_of_mem hm
    have hG := h.good.1
    have hi := (good_mem hG).1 (mem_LL.2 ⟨3, by omega, hm⟩)
    obtain ⟨k, rfl⟩ : ∃ k : Nat, i = k := ⟨i.toNat, by omega⟩
    have e2 : shadeA A k = mvA A 3 2 P Q k := by
      unfold shadeA mvA
      rw [if_pos hc, hA, filter_mid (by rw [← hA]; exact nd3 hG)]
    rw [e2, decide_eq_true hc]
    have P1 : Hid (Calls Tryz.prog 161 #[.pointer (some ⟨p, 0, none⟩), .int .i64 (k : Int), .int .i64 2] w fun e w' => e = .returned (.tuple #[]) ∧ MA w' p n (mvA A 3 2 P Q k) F ∧ Ch9 F w w') := Lib.hid (gmove_c (y := 2) h (by omega) (by omega) (by omega) hA)
    rw [hc] at P0
    clear e2 hG hA hm hi hc h
    go_enter Tryz.func163, Tryz.ntmps163
    go_wp2_with (first | (go_at_call 158; ((with_reducible refine P0.out.mono ?_); rintro e w' ⟨rfl, hw'⟩; subst w')) | (go_at_call 161; ((with_reducible refine P1.out.mono ?_); rintro e w' ⟨he, d1, d2⟩; subst he)))
    go_ret
    exact ⟨rfl, d1, d2⟩
  · have e2 : shadeA A i = A := by unfold shadeA; rw [if_neg hc]
    have hn : (colorR A i != 3) = true := by simpa using hc
    have hn' : (colorR A i == 3) = false := by simpa using hc
    rw [e2, decide_eq_false hc]
    replace h := Lib.hid h
    generalize colorR A i = c at *
    clear e2 hc
    go_enter Tryz.func163, Tryz.ntmps163
    go_wp2_with (first | (go_at_call 158; ((with_reducible refine P0.out.mono ?_); rintro e w' ⟨rfl, hw'⟩; subst w')))
    go_ret
    exact ⟨rfl, h.out, Ch9.refl _ _⟩
theorem SL.ch {w w' : World} {e : TypeId} {v : Value} {L : List Int} {F : Nat → Prop} (h : SL w e v L) (c : Ch9 F w w') (hF : ∀ g, v.ownBlock = some g → ¬ F g) : SL w' e v L := by
  obtain ⟨h1, h2⟩ := h
  refine ⟨h1, ?_⟩
  rcases h2 with hh | ⟨g, cap, cur, e1, e2, e3, e4⟩
  · exact Or.inl hh
  · refine Or.inr ⟨g, cap, cur, e1, e2, ?_, e4⟩
    have hlt : g < w.heap.size := by
      apply Classical.byContradiction
      intro hn
      rw [Array.getElem?_eq_none (by omega)] at e3
      cases e3
    rw [c.block g hlt (hF g (by rw [e1]; rfl))]
    exact e3
/-- a mill while it is turned -/
structure TSt (w : World) (p n : Nat) (A : Mst) (F : Nat → Prop) (u : Value) (L : List Int) (wr : World) : Prop where
  ma : MA wr p n A F
  ch : Ch9 F w wr
  sl : SL wr 3 u L
theorem TSt.step {w wr w1 : World} {p n : Nat} {A A' : Mst} {F : Nat → Prop} {u : Value} {L : List Int} (h : TSt w p n A F u L wr) (hF : ∀ g, u.ownBlock = some g → ¬ F g) (hm : MA w1 p n A' F) (c : Ch9 F wr w1) : TSt w p n A' F u L w1 :=
  ⟨hm, h.ch.trans c, h.sl.ch c hF⟩
theorem MA.count {w : World} {p n : Nat} {A : Mst} {F : Nat → Prop} (h : MA w p n A F) {k : Nat} (hk : k < 4) : w.cell? ⟨p, 6 + k, none⟩ = some (.int .i64 (A k).length) := by
  obtain ⟨q, gc, FR, cs, fs, ns, rfl, hS, hT, hC, hG, h1, h2⟩ := h
  rw [hS.cn k hk, hT.en k hk]
end Wd
end Go.Proofs.YteiejjmhmmkdhaaGreat

/- The package's mill: a new one. -/
namespace Go.Proofs.YteiejjmhmmkdhaaGreat
set_option maxRecDepth 20000
open Go.RowKit
set_option linter.unusedVariables false
namespace Wd
theorem gnew_none {w : World} (n : Int) (hn : n < 1 ∨ 512 < n) :
    Calls Tryz.prog 51 #[.int .i64 n] w fun e w' => e = .returned (.pointer .none) ∧ w' = w := by
  rcases hn with hn | hn
  · have d1 : decide (n < 1) = true := by simp; omega
    go_enter Tryz.func51, Tryz.ntmps51
    go_wp2
    go_ret
    exact ⟨rfl, rfl⟩
  · have d1 : decide (n < 1) = false := by simp; omega
    have d2 : decide (n > 512) = true := by simp; omega
    have d3 : decide (512 < n) = true := by simp; omega
    go_enter Tryz.func51, Tryz.ntmps51
    go_wp2
    go_ret
    exact ⟨rfl, rfl⟩
theorem made_ms {W : World} {p q gc n : Nat} {FR : Nat → Prop} {Z : Array Value} (hZ : Z = madeCells #[.int .i64 0] n)
    (hp : W.heap[p]? = some (.cells #[.pointer (some ⟨q, 0, none⟩), .slice (some ⟨gc, 0, none⟩) n n, .int .i64 0, .int .i64 0, .int .i64 0, .int .i64 0, .int .i64 0, .int .i64 0, .int .i64 0, .int .i64 0] 134 (0, 0)))
    (hg : W.heap[gc]? = some (.cells Z 3 (0, 0))) (hR : RA W q n (rng n) FR) (e : p ≠ gc) (ep : ¬ FR p) (eg : ¬ FR gc) :
    MS W p q gc n FR (rng n) (fun _ => 0) (fun _ => 0) (fun _ => 0) := by
  have hz : ∀ k, k < n → Z[k]? = some (.int .i64 0) := by
    intro k hk
    have : (madeCells #[Value.int .i64 0] n).toList[k]? = some (.int .i64 0) := by rw [toList_madeCells_one]; simp [hk]
    rw [hZ, ← Array.getElem?_toList]
    exact this
  refine ⟨by simp [World.cell?, hp], by simp [World.cell?, hp], fun k hk => ?_, fun k hk => ?_, fun k hk => ?_, fun k => by simp [World.frozen?, hp], fun k => by simp [World.frozen?, hg], hR, e, ep, eg⟩
  · rcases (show k = 0 ∨ k = 1 ∨ k = 2 ∨ k = 3 by omega) with rfl | rfl | rfl | rfl <;> simp [World.cell?, hp]
  · rcases (show k = 0 ∨ k = 1 ∨ k = 2 ∨ k = 3 by omega) with rfl | rfl | rfl | rfl <;> simp [World.cell?, hp]
  · simp [World.cell?, hg, hz k hk]
theorem LL_start (n : Nat) : LL (startA n) = rng n := by unfold LL startA; simp [upA]
theorem start_ma {W : World} {p q gc n : Nat} {FR : Nat → Prop} (h : MS W p q gc n FR (rng n) (fun _ => 0) (fun _ => 0) (upd (fun _ => 0) 0 n)) (h1 : 1 ≤ n) (h2 : n ≤ 512) : MA W p n (startA n) (FM p gc FR) := by
  refine ⟨q, gc, FR, _, _, _, rfl, by rw [LL_start]; exact h, ⟨fun k hk i T e => ?_, fun k hk => ?_⟩, fun k hk => ?_, good_start n, h1, h2⟩
  · by_cases c : k = 0
    · subst c
      simp only [startA, upA, if_true] at e
      obtain ⟨m, rfl⟩ : ∃ m, n = m + 1 := ⟨n - 1, by omega⟩
      unfold rng at e
      rw [List.range_succ_eq_map] at e
      exact (List.cons.inj e).1
    · simp only [startA, upA, if_neg c] at e
      cases e
  · by_cases c : k = 0
    · subst c
      rw [upd_same]
      simp [startA, upA, rng_len]
    · rw [upd_ne _ _ c]
      simp [startA, upA, c]
  · refine (good_color (good_start n) (x := 0) (by omega) ?_).symm
    simp only [startA, upA, if_true]
    unfold rng
    exact List.mem_map.2 ⟨k, by simpa using hk, rfl⟩
set_option maxHeartbeats 4000000 in
theorem gnew_k {w : World} (n : Nat) (h1 : 1 ≤ n) (h2 : n ≤ 512) :
    Calls Tryz.prog 51 #[.int .i64 n] w fun e w' => ∃ p F, e = .returned (.pointer (some ⟨p, 0, none⟩)) ∧ MA w' p n (startA n) F ∧ (∀ k, F k → w.heap.size ≤ k) ∧ Below w.heap.size w w' := by
  have d1 : decide ((n : Int) < 1) = false := by simp; omega
  have d2 : decide (512 < (n : Int)) = false := by simp; omega
  have d3 : decide ((n : Int) > 512) = false := by simp; omega
  obtain ⟨i0, hi0, hz0, hz1, hz2⟩ := info_parts info3
  obtain ⟨Z, hZ, hmk⟩ : ∃ Z : Array Value, Z = madeCells #[.int .i64 0] n ∧ ∀ w, (Instr.makeSlice 34 (.int .i64 (n : Int)) (.int .i64 (n : Int))).run Tryz.prog w = .ok (.slice (some ⟨w.heap.size, 0, none⟩) n n) (w.alloc (.cells Z 3)) := by
    refine ⟨_, rfl, fun w => ?_⟩
    have := run_make (P := Tryz.prog) w 34 3 i0 (.int .i64 0) Tryz.underlying34 hi0 hz0 .i64 .i64 n n (by omega) (by omega) (by rw [hz2]; omega) (by omega)
    rw [hz1] at this
    simpa [Value.cells] using this
  replace hZ := Lib.hid hZ
  go_enter Tryz.func51, Tryz.ntmps51
  go_wp2
  go_region_with (first | (go_at_call 72; ((with_reducible refine (new_k n h1 (by omega)).mono ?_); rintro e w1 ⟨q, FR, he, r1, r2, r3⟩; subst he)))
  · have hlt := r1.lt
    have hlt' := hlt
    have b1 : Below w.heap.size w w1 := (Below.refl w.heap.size w).drew.trans r3
    have bs := b1.size
    have b : Below w.heap.size w ((w1.alloc (.cells Z 3)).alloc (.cells #[.pointer (some ⟨q, 0, none⟩), .slice (some ⟨w1.heap.size, 0, none⟩) n n, .int .i64 0, .int .i64 0, .int .i64 0, .int .i64 0, .int .i64 0, .int .i64 0, .int .i64 0, .int .i64 0] 134)) := (b1.alloc b1.size _).alloc (by simp; omega) _
    have r2' : ∀ k, FR k → w.heap.size ≤ k := r2
    have s1 : (w1.alloc (.cells Z 3)).heap.size = w1.heap.size + 1 := by simp
    have hp : ((w1.alloc (.cells Z 3)).alloc (.cells #[.pointer (some ⟨q, 0, none⟩), .slice (some ⟨w1.heap.size, 0, none⟩) n n, .int .i64 0, .int .i64 0, .int .i64 0, .int .i64 0, .int .i64 0, .int .i64 0, .int .i64 0, .int .i64 0] 134)).heap[w1.heap.size + 1]? = some (.cells #[.pointer (some ⟨q, 0, none⟩), .slice (some ⟨w1.heap.size, 0, none⟩) n n, .int .i64 0, .int .i64 0, .int .i64 0, .int .i64 0, .int .i64 0, .int .i64 0, .int .i64 0, .int .i64 0] 134 (0, 0)) := by rw [← s1]; exact heap_alloc_new _ _
    have hg : ((w1.alloc (.cells Z 3)).alloc (.cells #[.pointer (some ⟨q, 0, none⟩), .slice (some ⟨w1.heap.size, 0, none⟩) n n, .int .i64 0, .int .i64 0, .int .i64 0, .int .i64 0, .int .i64 0, .int .i64 0, .int .i64 0, .int .i64 0] 134)).heap[w1.heap.size]? = some (.cells Z 3 (0, 0)) := by rw [Below.heap_alloc _ _ _ (by simp)]; exact heap_alloc_new _ _
    have hR : RA ((w1.alloc (.cells Z 3)).alloc (.cells #[.pointer (some ⟨q, 0, none⟩), .slice (some ⟨w1.heap.size, 0, none⟩) n n, .int .i64 0, .int .i64 0, .int .i64 0, .int .i64 0, .int .i64 0, .int .i64 0, .int .i64 0, .int .i64 0] 134)) q n (rng n) FR := r1.same (fun k hk => by have := hlt k hk; rw [Below.heap_alloc _ _ _ (by simp; omega), Below.heap_alloc _ _ _ this])
    clear s1
    have S0 := made_ms hZ.out hp hg hR (by omega) (fun h => by have := hlt _ h; omega) (fun h => by have := hlt' _ h; omega)
    have far : ∀ k, FM (w1.heap.size + 1) (w1.heap.size) FR k → w.heap.size ≤ k := by
      rintro k (rfl | rfl | hk)
      · omega
      · omega
      · exact r2' k hk
    clear hp hg hR hlt hlt' r1 r2 r2' r3 b1 hZ hmk bs
    generalize ((w1.alloc (.cells Z 3)).alloc (.cells #[.pointer (some ⟨q, 0, none⟩), .slice (some ⟨w1.heap.size, 0, none⟩) n n, .int .i64 0, .int .i64 0, .int .i64 0, .int .i64 0, .int .i64 0, .int .i64 0, .int .i64 0, .int .i64 0] 134)) = W at b S0 ⊢
    have n0 : W.cell? ⟨w1.heap.size + 1, 6, none⟩ = some (.int .i64 0) := S0.cn 0 (by omega)
    have z0 := S0.zp 6
    replace b := Lib.hid b
    replace S0 := Lib.hid S0
    replace far := Lib.hid far
    generalize w1.heap.size + 1 = p at *
    go_wp2
    go_ret
    refine ⟨p, ?_⟩
    exact ⟨rfl, _, start_ma (S0.out.setN (k := 0) (by omega) n) h1 h2, far.out, below_ch9 b.out ((Ch9.refl _ _).set _ (Or.inl rfl) _) far.out⟩
  · have hlt := r1.lt
    have r2' : ∀ k, FR k → w.heap.size + 1 ≤ k := fun k hk => by have := r2 k hk; simpa using this
    have b0 : Below w.heap.size w (w.drew.alloc (.cells Z 3)) := (Below.refl w.heap.size w).drew.alloc (Nat.le_refl _) _
    have b1 : Below w.heap.size w w1 := b0.trans (r3.mono b0.size)
    have bs : w.heap.size + 1 ≤ w1.heap.size := by have := r3.size; simpa using this
    have b : Below w.heap.size w (w1.alloc (.cells #[.pointer (some ⟨q, 0, none⟩), .slice (some ⟨w.heap.size, 0, none⟩) n n, .int .i64 0, .int .i64 0, .int .i64 0, .int .i64 0, .int .i64 0, .int .i64 0, .int .i64 0, .int .i64 0] 134)) := b1.alloc b1.size _
    have hp : (w1.alloc (.cells #[.pointer (some ⟨q, 0, none⟩), .slice (some ⟨w.heap.size, 0, none⟩) n n, .int .i64 0, .int .i64 0, .int .i64 0, .int .i64 0, .int .i64 0, .int .i64 0, .int .i64 0, .int .i64 0] 134)).heap[w1.heap.size]? = some (.cells #[.pointer (some ⟨q, 0, none⟩), .slice (some ⟨w.heap.size, 0, none⟩) n n, .int .i64 0, .int .i64 0, .int .i64 0, .int .i64 0, .int .i64 0, .int .i64 0, .int .i64 0, .int .i64 0] 134 (0, 0)) := heap_alloc_new _ _
    have hg : (w1.alloc (.cells #[.pointer (some ⟨q, 0, none⟩), .slice (some ⟨w.heap.size, 0, none⟩) n n, .int .i64 0, .int .i64 0, .int .i64 0, .int .i64 0, .int .i64 0, .int .i64 0, .int .i64 0, .int .i64 0] 134)).heap[w.heap.size]? = some (.cells Z 3 (0, 0)) := by
      rw [Below.heap_alloc _ _ _ (by omega), r3.block _ (by simp)]; exact heap_alloc_new w.drew _
    have hR : RA (w1.alloc (.cells #[.pointer (some ⟨q, 0, none⟩), .slice (some ⟨w.heap.size, 0, none⟩) n n, .int .i64 0, .int .i64 0, .int .i64 0, .int .i64 0, .int .i64 0, .int .i64 0, .int .i64 0, .int .i64 0] 134)) q n (rng n) FR := r1.same (fun k hk => by have := hlt k hk; rw [Below.heap_alloc _ _ _ this])
    have hs : w.drew.heap.size = w.heap.size := rfl
    have hlt' : ∀ k, FR k → w.heap.size + 1 ≤ k := r2'
    replace r2' : ∀ k, FR k → w.heap.size ≤ k := fun k hk => by have := r2' k hk; omega
    have S0 := made_ms hZ.out hp hg hR (by omega) (fun h => by have := hlt _ h; omega) (fun h => by have := hlt' _ h; omega)
    have far : ∀ k, FM (w1.heap.size) (w.heap.size) FR k → w.heap.size ≤ k := by
      rintro k (rfl | rfl | hk)
      · omega
      · omega
      · exact r2' k hk
    clear hp hg hR hlt hlt' r1 r2 r2' r3 b1 hZ hmk bs
    generalize (w1.alloc (.cells #[.pointer (some ⟨q, 0, none⟩), .slice (some ⟨w.heap.size, 0, none⟩) n n, .int .i64 0, .int .i64 0, .int .i64 0, .int .i64 0, .int .i64 0, .int .i64 0, .int .i64 0, .int .i64 0] 134)) = W at b S0 ⊢
    have n0 : W.cell? ⟨w1.heap.size, 6, none⟩ = some (.int .i64 0) := S0.cn 0 (by omega)
    have z0 := S0.zp 6
    replace b := Lib.hid b
    replace S0 := Lib.hid S0
    replace far := Lib.hid far
    generalize w1.heap.size = p at *
    go_wp2
    go_ret
    refine ⟨p, ?_⟩
    exact ⟨rfl, _, start_ma (S0.out.setN (k := 0) (by omega) n) h1 h2, far.out, below_ch9 b.out ((Ch9.refl _ _).set _ (Or.inl rfl) _) far.out⟩
end Wd
end Go.Proofs.YteiejjmhmmkdhaaGreat

/- The package's mill keeps what the laws ask of a mill. -/
namespace Go.Proofs.YteiejjmhmmkdhaaGreat
set_option maxRecDepth 20000
open Go.RowKit
set_option linter.unusedVariables false
namespace Wd
theorem newer_same (F : Nat → Prop) (s : Nat) : Newer9 F F s := fun _ h => Or.inl h
theorem below_eq {w w' : World} (e : w' = w) : Below w.heap.size w w' := e ▸ Below.refl _ _
theorem KM : MillK MA where
  lt := fun h => h.lt
  keep := fun h hk => h.keep hk
  alloc := fun h => (galloc_k h).mono (by rintro e w' ⟨rfl, d1, d2⟩; exact ⟨_, rfl, d1, d2, newer_same _ _⟩)
  shade := fun i h _ _ => (gshade_k i h).mono (by rintro e w' ⟨rfl, d1, d2⟩; exact ⟨_, rfl, d1, d2, newer_same _ _⟩)
  color := fun i h _ _ => (gcolor_k i h).mono (by rintro e w' ⟨rfl, h⟩; exact ⟨rfl, below_eq h⟩)
  new := fun n h1 h2 => gnew_k n h1 h2
  none := fun n _ _ h => (gnew_none n h).mono (by rintro e w' ⟨rfl, h⟩; exact ⟨rfl, below_eq h⟩)
end Wd
end Go.Proofs.YteiejjmhmmkdhaaGreat

/- What the laws ask of a table of identities, whoever keeps it. -/
namespace Go.Proofs.YteiejjmhmmkdhaaGreat
set_option maxRecDepth 20000
open Go.RowKit
set_option linter.unusedVariables false
namespace Wd
abbrev TAt := World → Nat → Tst → (Nat → Prop) → Prop
/-- what the laws ask of the package's table: 'TA w p T F': at block p lies a table, its identities' places are T; it lies in the blocks F -/
structure TableK (TA : TAt) : Prop where
  lt : ∀ {w p T F}, TA w p T F → ∀ k, F k → k < w.heap.size
  keep : ∀ {w w' p T F}, TA w p T F → (∀ k, F k → w'.heap[k]? = w.heap[k]?) → TA w' p T F
  take : ∀ {w p T F} (pl : Pl), TA w p T F → plOk pl → Calls Tryz.prog 152 #[.pointer (some ⟨p, 0, none⟩), plV pl] w fun e w' => ∃ F', e = .returned (.int .i64 (takeI T pl)) ∧ TA w' p (takeT T pl) F' ∧ Ch9 F w w' ∧ Newer9 F F' w.heap.size
  at' : ∀ {w p T F} (i : Int), TA w p T F → (-9223372036854775808 ≤ i) → (i ≤ 9223372036854775807) → Calls Tryz.prog 73 #[.pointer (some ⟨p, 0, none⟩), .int .i64 i] w fun e w' => e = .returned (.tuple #[plV (atP T i), .bool (hasT T i)]) ∧ Below w.heap.size w w'
  new : ∀ {w}, Calls Tryz.prog 49 #[] w fun e w' => ∃ p F, e = .returned (.pointer (some ⟨p, 0, none⟩)) ∧ TA w' p noT F ∧ (∀ k, F k → w.heap.size ≤ k) ∧ Below w.heap.size w w'
section
variable {TA : TAt} {w0 wr wA w1 w2 : World} {p b : Nat} {T T' : Tst} {F F' : Nat → Prop}
end
/-- a table of the package's, of the call's own -/
structure PT (TA : TAt) (w0 wr : World) (p : Nat) (T : Tst) (F : Nat → Prop) : Prop where
  ta : TA wr p T F
  bel : Below w0.heap.size w0 wr
  fF : ∀ k, F k → w0.heap.size ≤ k
section
variable {TA : TAt} {w0 wr wA w1 : World} {p : Nat} {T T' : Tst} {F F' : Nat → Prop}
theorem PT.keep (K : TableK TA) (h : PT TA w0 wr p T F) (g : Below wr.heap.size wr wA) : PT TA w0 wA p T F :=
  ⟨K.keep h.ta (fun k hk => g.block k (K.lt h.ta k hk)), h.bel.trans (g.mono h.bel.size), h.fF⟩
theorem PT.step (h : PT TA w0 wr p T F) (hm : TA w1 p T' F') (c : Ch9 F wr w1) (hn : Newer9 F F' wr.heap.size) : PT TA w0 w1 p T' F' := by
  refine ⟨hm, below_ch9 h.bel c h.fF, fun k hk => ?_⟩
  rcases hn k hk with h' | h'
  · exact h.fF k h'
  · exact Nat.le_trans h.bel.size h'
end
theorem idsT_len (T : Tst) : (idsT T).length ≤ 1024 := idsK_len T 1024
end Wd
end Go.Proofs.YteiejjmhmmkdhaaGreat

/- What holds of a table of identities at any time; places in memory of the call's own. -/
namespace Go.Proofs.YteiejjmhmmkdhaaGreat
set_option maxRecDepth 20000
open Go.RowKit
set_option linter.unusedVariables false
namespace Wd
/-- a table of the package's, and places in memory of the call's own -/
structure PB (TA : TAt) (w0 wr : World) (p : Nat) (T : Tst) (F : Nat → Prop) (L : List (Nat × Pl)) : Prop where
  pt : PT TA w0 wr p T F
  bx : ∀ e, e ∈ L → wr.cell? ⟨e.1, 0, none⟩ = some (.int .i64 e.2.1) ∧ wr.cell? ⟨e.1, 1, none⟩ = some (.int .i64 e.2.2) ∧ ¬ F e.1
section
variable {TA : TAt} {w0 wr wA w1 : World} {p : Nat} {T T' : Tst} {F F' : Nat → Prop} {L : List (Nat × Pl)}
theorem PB.of (h : PT TA w0 wr p T F) : PB TA w0 wr p T F [] := ⟨h, fun e he => by cases he⟩
theorem PB.keep (K : TableK TA) (h : PB TA w0 wr p T F L) (g : Below wr.heap.size wr wA) : PB TA w0 wA p T F L := by
  refine ⟨h.pt.keep K g, fun e he => ?_⟩
  obtain ⟨c0, c1, nf⟩ := h.bx e he
  exact ⟨(g.cell (World.block_lt_of_cell? wr _ c0)).trans c0, (g.cell (World.block_lt_of_cell? wr _ c1)).trans c1, nf⟩
theorem PB.step (h : PB TA w0 wr p T F L) (hm : TA w1 p T' F') (c : Ch9 F wr w1) (hn : Newer9 F F' wr.heap.size) : PB TA w0 w1 p T' F' L := by
  refine ⟨h.pt.step hm c hn, fun e he => ?_⟩
  obtain ⟨c0, c1, nf⟩ := h.bx e he
  have hlt : e.1 < wr.heap.size := World.block_lt_of_cell? wr _ c0
  have hb := c.block e.1 hlt nf
  refine ⟨(World.cell?_of_block (a := ⟨e.1, 0, none⟩) hb).trans c0, (World.cell?_of_block (a := ⟨e.1, 1, none⟩) hb).trans c1, fun hF => ?_⟩
  rcases hn e.1 hF with h' | h'
  · exact nf h'
  · omega
theorem PB.made (K : TableK TA) (h : PB TA w0 wr p T F L) (q : Pl) (t : TypeId) : PB TA w0 (wr.alloc (.cells #[.int .i64 q.1, .int .i64 q.2] t)) p T F ((wr.heap.size, q) :: L) := by
  have h1 := h.keep K ((Below.refl wr.heap.size wr).alloc (Nat.le_refl _) (.cells #[.int .i64 q.1, .int .i64 q.2] t))
  refine ⟨h1.pt, fun e he => ?_⟩
  rcases List.mem_cons.1 he with rfl | he
  · exact ⟨by simp, by simp, fun hF => by have := K.lt h.pt.ta _ hF; simp at this⟩
  · exact h1.bx e he
end
theorem atP_has {T : Tst} {i : Int} (h : hasT T i = true) : ∃ k : Nat, i = k ∧ k < 1024 ∧ (∃ p, T k = some p ∧ atP T i = p) := by
  obtain ⟨k, rfl, hk, _, p, hp⟩ := hasT_some h
  refine ⟨k, rfl, hk, p, hp, ?_⟩
  unfold atP
  rw [if_pos h, show (k : Int).toNat = k by simp, hp]
  rfl
theorem atP_no {T : Tst} {i : Int} (h : hasT T i = false) : atP T i = (0, 0) := by
  unfold atP
  rw [if_neg (by simp [h])]
end Wd
end Go.Proofs.YteiejjmhmmkdhaaGreat

/- A map of places to identities, of the call's own: what a look, a store and a delete do to it. -/
namespace Go.Proofs.YteiejjmhmmkdhaaGreat
set_option maxRecDepth 20000
open Go.RowKit Go.Maps
set_option linter.unusedVariables false
namespace Wd
theorem rowPlU : (124 : TypeId) < Tryz.prog.types.size := of_decide_eq_true (by kernel_rfl)
theorem widePlU : (match Tryz.prog.underlying 124 with | some (.array _ _) | some (.struct _) => true | _ => false) = true := by rw [Tryz.underlying124]
theorem lawPlU : WideMaps.KeyLaw Tryz.prog 124 := deep_law_laid laidOutP (m := 2) (by omega) rowPlU (by kernel_rfl) widePlU
theorem keyedPlU : Keyed Tryz.prog 124 := Keyed.of_law lawPlU
theorem cellsPlU : Tryz.prog.cellsOf 124 = 2 := by kernel_rfl
theorem keyTypePlU : Tryz.prog.keyType 124 = true := by kernel_rfl
theorem key_plU {p : Pl} (hp : plOk p) : keyOf Tryz.prog 124 (plV p) = some (keyL p) := by
  obtain ⟨a, c⟩ := p
  have wa : (Lit.int .i64 a).wf = true := WalkArith.wf_i64 ⟨hp.1.1, hp.1.2⟩
  have wc : (Lit.int .i64 c).wf = true := WalkArith.wf_i64 ⟨hp.2.1, hp.2.2⟩
  obtain ⟨m, hm⟩ : ∃ m, Tryz.prog.types.size = m + 1 := ⟨Tryz.prog.types.size - 1, by have h : 0 < Tryz.prog.types.size := Nat.lt_of_le_of_lt (Nat.zero_le _) rowPlU; omega⟩
  unfold keyOf
  rw [Tryz.underlying124]
  simp only
  rw [if_pos (by simp [keyTypePlU, plV, Value.formed, Tryz.underlying124, cellsPlU]), hm]
  unfold Program.keyLits
  rw [Tryz.underlying124]
  simp [plV, Value.cells, cellsPlU, cellsI1, Program.keyLits, Tryz.underlying3, wa, wc, keyL]
theorem keyL_injU {p q : Pl} (hp : plOk p) (hq : plOk q) (h : keyL p = keyL q) : p = q := by
  have h1 := key_plU hp
  have h2 := key_plU hq
  rw [h] at h1
  have := keyedPlU.inj h1 h2
  obtain ⟨a, c⟩ := p
  obtain ⟨b, d⟩ := q
  unfold plV at this
  simp only [Value.agg.injEq, Array.mk.injEq, List.cons.injEq, Value.int.injEq, true_and, and_true] at this
  exact Prod.ext this.1 this.2
theorem zeroIP (w : World) : (zeroValue 3).run Tryz.prog w = .ok (.int .i64 0) w := by
  obtain ⟨i0, hi0, hz0, hz1, hz2⟩ := info_parts info3
  simp [zeroValue, typeInfo, hi0, hz0]
/-- a map of places: M p is the number that p has; there are c entries -/
def MapP (w : World) (b c : Nat) (M : Pl → Option Int) : Prop := ∃ D : DataW Nat, w.ownsMap Tryz.prog 124 (plainElem Tryz.prog 3) b c D ∧ size D = c ∧
  ∀ p, plOk p → has D (keyL p) = (M p).isSome ∧ D.atKey (keyL p) (.lit (.int .i64 0)) = .lit (.int .i64 ((M p).getD 0))
def updM (M : Pl → Option Int) (p : Pl) (v : Option Int) : Pl → Option Int := fun q => if q = p then v else M q
section
variable {w w1 : World} {b c : Nat} {M : Pl → Option Int}
theorem MapP.made (w : World) : MapP (w.alloc (.map #[] 0)) w.heap.size 0 (fun _ => none) := ⟨.map [], World.ownsMap_made _ _ _ _, rfl, fun p _ => ⟨rfl, rfl⟩⟩
theorem MapP.lt (h : MapP w b c M) : b < w.heap.size := by
  obtain ⟨D, hown, _⟩ := h
  exact hown.lt
theorem MapP.same (h : MapP w b c M) (hb : w1.heap[b]? = w.heap[b]?) : MapP w1 b c M := by
  obtain ⟨D, ⟨es, clock, h1, h2⟩, hD⟩ := h
  exact ⟨D, ⟨es, clock, hb.trans h1, h2⟩, hD⟩
/-- 'id, in := m[p]' -/
theorem MapP.look_ok (h : MapP w b c M) {p : Pl} (hp : plOk p) : (Instr.lookup 121 (.map (some b)) (plV p) true).run Tryz.prog w = .ok (.tuple #[.int .i64 ((M p).getD 0), .bool (M p).isSome]) w := by
  obtain ⟨D, hown, _, hD⟩ := h
  obtain ⟨v, ps, hrun, hv⟩ := hown.look_ok keyedPlU Tryz.underlying121 (zeroIP w) (plainElem_int Tryz.underlying3 (by decide)) (key_plU hp)
  rw [(hD p hp).1] at hrun
  rw [(hD p hp).2] at hv
  obtain ⟨x, rfl, hc, _⟩ := plainElem_int_inv Tryz.underlying3 hv
  simp only [Prod.mk.injEq] at hc
  have : x = (M p).getD 0 := by
    have := hc.1
    injection this with h1
    injection h1 with _ h2
    exact h2.symm
  rw [hrun, this]
theorem own_sizeU {D : DataW Nat} {n : Nat} (h : w.ownsMap Tryz.prog 124 (plainElem Tryz.prog 3) b n D) : w.ownsMap Tryz.prog 124 (plainElem Tryz.prog 3) b (size D) D := by
  obtain ⟨es, clock, hb, F, hs, rfl⟩ := h
  exact ⟨es, clock, hb, F, by simp [size, length_sorted], rfl⟩
/-- 'm[p] = v' -/
theorem MapP.put (h : MapP w b c M) (hc : c < maxLen) {p : Pl} (hp : plOk p) {v : Int} (hv : (Lit.int .i64 v).wf = true) : ∃ w', (Instr.mapUpdate 121 (.map (some b)) (plV p) (.int .i64 v)).run Tryz.prog w = .ok () w' ∧ MapP w' b (if (M p).isSome then c else c + 1) (updM M p (some v)) ∧ w.grownBy w' (some b) ∧ w'.heap.size = w.heap.size := by
  obtain ⟨D, hown, hsz, hD⟩ := h
  have hk := key_plU hp
  obtain ⟨w', hrun, h1, h2⟩ := hown.update keyedPlU Tryz.underlying121 hc hk (plainElem_int Tryz.underlying3 hv)
  obtain ⟨w2, hrun2, _, es, clock, es', clock', hb0, hw2⟩ := hown.store keyedPlU Tryz.underlying121 hc hk (plainElem_int Tryz.underlying3 hv)
  have ew : w' = w2 := by
    rw [hrun] at hrun2
    injection hrun2
  have hsize : w'.heap.size = w.heap.size := by rw [ew, hw2]; simp [ChangeMaps.setBlock]
  have es2 : size (D.put (keyL p) (.lit (.int .i64 v))) = if (M p).isSome then c else c + 1 := by rw [size_put (hown.tidy keyedPlU), (hD p hp).1, hsz]
  have h3 := own_sizeU h1
  rw [es2] at h3
  refine ⟨w', hrun, ⟨_, h3, es2, fun q hq => ?_⟩, h2, hsize⟩
  · by_cases e : q = p
    · subst e
      rw [has_put_same hown.isMap (keyedPlU.key hk), atKey_put_same hown.isMap (keyedPlU.key hk)]
      simp [updM]
    · have hne : keyL q ≠ keyL p := fun h => e (keyL_injU hq hp h)
      rw [has_put_other hne, atKey_put_other hne, (hD q hq).1, (hD q hq).2]
      simp [updM, e]
end
end Wd
end Go.Proofs.YteiejjmhmmkdhaaGreat

/- A map from places to identities says what the identities' places say. -/
namespace Go.Proofs.YteiejjmhmmkdhaaGreat
set_option maxRecDepth 20000
open Go.RowKit Go.Maps
set_option linter.unusedVariables false
namespace Wd
/-- whose a place is, as a map has it -/
def mapOf (T : Tst) : Pl → Option Int := fun q => (ofR T q).map (fun (k : Nat) => (k : Int))
theorem mapOf_some {T : Tst} (hI : Inv T) {q : Pl} {k : Nat} (h : T k = some q) : mapOf T q = some (k : Int) := by unfold mapOf; rw [ofR_at hI h]; rfl
theorem mapOf_none {T : Tst} {q : Pl} (h : ∀ k, T k ≠ some q) : mapOf T q = none := by
  have e : ofR T q = none := by
    cases g : ofR T q with
    | none => rfl
    | some k => exact absurd (by simpa using (firstIn_some g).2.2.1) (h k)
  unfold mapOf; rw [e]; rfl
theorem mapOf_getD (T : Tst) (q : Pl) : (mapOf T q).getD 0 = ofI T q ∧ (mapOf T q).isSome = (ofR T q).isSome := by
  unfold mapOf ofI
  cases ofR T q <;> exact ⟨rfl, rfl⟩
/-- two maps of places are one, if each identity's place is found in both, and no other -/
theorem mapOf_ext {T : Tst} (hI : Inv T) {M : Pl → Option Int} (h1 : ∀ k q, T k = some q → M q = some (k : Int)) (h2 : ∀ q, (∀ k, T k ≠ some q) → M q = none) : mapOf T = M := by
  funext q
  by_cases h : ∃ k, T k = some q
  · obtain ⟨k, hk⟩ := h
    rw [mapOf_some hI hk, h1 k q hk]
  · have h' : ∀ k, T k ≠ some q := fun k hk => h ⟨k, hk⟩
    rw [mapOf_none h', h2 q h']
theorem mapOf_take {T : Tst} (hI : Inv T) {p : Pl} {k : Nat} (hp : plOk p) (ho : ofR T p = none) (hf : freeR T = some k) : mapOf (updT T k (some p)) = updM (mapOf T) p (some (k : Int)) := by
  obtain ⟨k1, k2, hk⟩ := freeR_at hf
  have hn := ofR_none hI ho
  have hI' := hI.upd k1 k2 hp (fun j _ => hn j)
  refine mapOf_ext hI' (fun j q hj => ?_) (fun q hq => ?_)
  · unfold updT at hj
    unfold updM
    by_cases c : j = k
    · rw [if_pos c] at hj; cases hj; rw [if_pos rfl, c]
    · rw [if_neg c] at hj
      rw [if_neg (by rintro rfl; exact hn j hj)]
      exact mapOf_some hI hj
  · unfold updM
    by_cases c : q = p
    · subst c; exact absurd (by unfold updT; rw [if_pos rfl]) (hq k)
    · rw [if_neg c]
      exact mapOf_none (fun j hj => by
        by_cases d : j = k
        · subst d; rw [hk] at hj; cases hj
        · exact hq j (by unfold updT; rw [if_neg d]; exact hj))
theorem Inv.swap {T : Tst} (hI : Inv T) {x y : Nat} {p q : Pl} (hx : T x = some p) (hy : T y = some q) : Inv (updT (updT T x (some q)) y (some p)) := by
  obtain ⟨x1, x2, hp⟩ := hI.bd x p hx
  obtain ⟨y1, y2, hq⟩ := hI.bd y q hy
  by_cases c : x = y
  · subst c
    have : q = p := by rw [hx] at hy; cases hy; rfl
    subst this
    have e : updT (updT T x (some q)) x (some q) = T := by
      funext j; unfold updT
      by_cases d : j = x
      · subst d; rw [if_pos rfl, hx]
      · rw [if_neg d, if_neg d]
    rw [e]; exact hI
  · have at' : ∀ j r, updT (updT T x (some q)) y (some p) j = some r → (j = y ∧ r = p) ∨ (j = x ∧ r = q) ∨ (j ≠ y ∧ j ≠ x ∧ T j = some r) := by
      intro j r h
      unfold updT at h
      by_cases d : j = y
      · rw [if_pos d] at h; cases h; exact Or.inl ⟨d, rfl⟩
      · rw [if_neg d] at h
        by_cases e : j = x
        · rw [if_pos e] at h; cases h; exact Or.inr (Or.inl ⟨e, rfl⟩)
        · rw [if_neg e] at h; exact Or.inr (Or.inr ⟨d, e, h⟩)
    have npq : p ≠ q := by rintro rfl; exact c (hI.inj x y _ hx hy)
    refine ⟨fun j r h => ?_, fun i j r hi hj => ?_⟩
    · rcases at' j r h with ⟨rfl, rfl⟩ | ⟨rfl, rfl⟩ | ⟨_, _, h⟩
      · exact ⟨y1, y2, hp⟩
      · exact ⟨x1, x2, hq⟩
      · exact hI.bd j r h
    · rcases at' i r hi with ⟨rfl, rfl⟩ | ⟨rfl, rfl⟩ | ⟨a1, a2, hi'⟩ <;> rcases at' j _ hj with ⟨rfl, e⟩ | ⟨rfl, e⟩ | ⟨b1, b2, hj'⟩
      · rfl
      · exact absurd e npq
      · exact absurd (hI.inj _ _ _ hj' hx) b2
      · exact absurd e.symm npq
      · rfl
      · exact absurd (hI.inj _ _ _ hj' hy) b1
      · rw [e] at hi'; exact absurd (hI.inj _ _ _ hi' hx) a2
      · rw [e] at hi'; exact absurd (hI.inj _ _ _ hi' hy) a1
      · exact hI.inj _ _ _ hi' hj'
/-- how many identities there are, behind a change of one -/
theorem idsK_upd (T : Tst) (k : Nat) (v : Option Pl) : ∀ j, (idsK (updT T k v) j).length + (if k < j ∧ inR9 T k = true then 1 else 0) = (idsK T j).length + (if k < j ∧ v.isSome = true then 1 else 0) := by
  intro j
  induction j with
  | zero => rfl
  | succ j ih =>
    have e : ∀ T : Tst, (idsK T (j + 1)).length = (idsK T j).length + (if inR9 T j = true then 1 else 0) := by
      intro T
      cases h : inR9 T j
      · rw [idsK_out h]; simp
      · rw [idsK_in h]; simp
    rw [e, e]
    by_cases c : j = k
    · subst c
      have e1 : inR9 (updT T j v) j = v.isSome := by simp [inR9, updT]
      rw [e1]
      rw [if_neg (show ¬ (j < j ∧ inR9 T j = true) by omega), if_neg (show ¬ (j < j ∧ v.isSome = true) by omega)] at ih
      have l1 : (j < j + 1) := by omega
      simp only [l1, true_and]
      omega
    · have e1 : inR9 (updT T k v) j = inR9 T j := by simp [inR9, updT, c]
      rw [e1]
      have l1 : (k < j + 1) ↔ (k < j) := by omega
      simp only [l1]
      omega
theorem ids_take {T : Tst} {k : Nat} {p : Pl} (hk : k < 1024) (h : T k = none) : (idsT (updT T k (some p))).length = (idsT T).length + 1 := by
  have g : ∀ n, k < n → (idsK (updT T k (some p)) n).length = (idsK T n).length + 1 := by
    intro n hn
    have := idsK_upd T k (some p) n
    rw [if_neg (by unfold inR9; rw [h]; simp), if_pos ⟨hn, rfl⟩] at this
    exact this
  exact g _ hk
end Wd
end Go.Proofs.YteiejjmhmmkdhaaGreat

/- The landed table, as it lies; has, leastFree. -/
namespace Go.Proofs.YteiejjmhmmkdhaaGreat
open Go.RowKit Go.Maps
set_option linter.unusedVariables false
set_option maxRecDepth 20000
namespace Wd
/-- the landed table at block b, its map at block m: who is there (T tells), the places (P), the map (M, of c entries) -/
structure TP (w : World) (b m : Nat) (T : Tst) (P : Nat → Pl) (c : Nat) (M : Pl → Option Int) : Prop where
  ci : ∀ k, k < 1024 → w.cell? ⟨b, k, none⟩ = some (.bool (inR9 T k))
  cs : ∀ k, k < 1024 → w.cell? ⟨b, 1024 + k * 2, none⟩ = some (.int .i64 (P k).1)
  cl : ∀ k, k < 1024 → w.cell? ⟨b, 1024 + k * 2 + 1, none⟩ = some (.int .i64 (P k).2)
  cm : w.cell? ⟨b, 3072, none⟩ = some (.map (some m))
  z : ∀ k, w.frozen? ⟨b, k, none⟩ = false
  ne : m ≠ b
  mp : MapP w m c M
def updP (P : Nat → Pl) (k : Nat) (p : Pl) : Nat → Pl := fun j => if j = k then p else P j
def FT (b m : Nat) : Nat → Prop := fun k => k = b ∨ k = m
section
variable {w w1 : World} {b m c c' : Nat} {T : Tst} {P : Nat → Pl} {M M' : Pl → Option Int}
theorem TP.lt (h : TP w b m T P c M) : b < w.heap.size := World.block_lt_of_cell? w _ (h.ci 0 (by decide))
theorem TP.same (h : TP w b m T P c M) (hb : w1.heap[b]? = w.heap[b]?) (hm : w1.heap[m]? = w.heap[m]?) : TP w1 b m T P c M :=
  ⟨fun k hk => (World.cell?_of_block (a := ⟨b, k, none⟩) hb).trans (h.ci k hk), fun k hk => (World.cell?_of_block (a := ⟨b, 1024 + k * 2, none⟩) hb).trans (h.cs k hk), fun k hk => (World.cell?_of_block (a := ⟨b, 1024 + k * 2 + 1, none⟩) hb).trans (h.cl k hk), (World.cell?_of_block (a := ⟨b, 3072, none⟩) hb).trans h.cm, fun k => (World.frozen?_of_block (a := ⟨b, k, none⟩) hb).trans (h.z k), h.ne, h.mp.same hm⟩
theorem TP.keep (h : TP w b m T P c M) (g : Below w.heap.size w w1) : TP w1 b m T P c M := h.same (g.block b h.lt) (g.block m h.mp.lt)
theorem TP.drew (h : TP w b m T P c M) : TP w.drew b m T P c M := h.same rfl rfl
theorem heap_set {o : Nat} {x : Value} (hne : m ≠ b) : (w.setCell ⟨b, o, none⟩ x).heap[m]? = w.heap[m]? := Below.heap_setCell _ _ _ _ hne
/-- it is said whether an identity is there -/
theorem TP.tell (h : TP w b m T P c M) {k : Nat} (hk : k < 1024) (v : Option Pl) : TP (w.setCell ⟨b, k, none⟩ (.bool v.isSome)) b m (updT T k v) P c M := by
  have far : ∀ {o : Nat}, k ≠ o → (w.setCell ⟨b, k, none⟩ (.bool v.isSome)).cell? ⟨b, o, none⟩ = w.cell? ⟨b, o, none⟩ := fun hne => World.cell?_setCell_other _ _ _ _ (by intro e; injection e with _ h2; exact hne h2)
  refine ⟨fun j hj => ?_, fun j hj => (far (by omega)).trans (h.cs j hj), fun j hj => (far (by omega)).trans (h.cl j hj), (far (by omega)).trans h.cm, fun j => (World.frozen?_setCell _ _ _ _).trans (h.z j), h.ne, h.mp.same (heap_set h.ne)⟩
  by_cases e : j = k
  · subst e
    rw [World.cell?_setCell_same _ _ _ (h.ci j hj)]
    simp [inR9, updT]
  · rw [far (Ne.symm e), h.ci j hj]
    simp [inR9, updT, e]
/-- a place is written -/
theorem TP.place (h : TP w b m T P c M) {k : Nat} (hk : k < 1024) (p : Pl) : TP ((w.setCell ⟨b, 1024 + k * 2, none⟩ (.int .i64 p.1)).setCell ⟨b, 1024 + k * 2 + 1, none⟩ (.int .i64 p.2)) b m T (updP P k p) c M := by
  have far : ∀ {w : World} {o o' : Nat} {x : Value}, o ≠ o' → (w.setCell ⟨b, o, none⟩ x).cell? ⟨b, o', none⟩ = w.cell? ⟨b, o', none⟩ := fun hne => World.cell?_setCell_other _ _ _ _ (by intro e; injection e with _ h2; exact hne h2)
  refine ⟨fun j hj => ?_, fun j hj => ?_, fun j hj => ?_, ?_, fun j => by rw [World.frozen?_setCell, World.frozen?_setCell]; exact h.z j, h.ne, h.mp.same ((heap_set h.ne).trans (heap_set h.ne))⟩
  · rw [far (by omega), far (by omega), h.ci j hj]
  · rw [far (by omega)]
    by_cases e : j = k
    · subst e
      rw [World.cell?_setCell_same _ _ _ (h.cs j hj)]
      simp [updP]
    · rw [far (by omega), h.cs j hj]
      simp [updP, e]
  · by_cases e : j = k
    · subst e
      rw [World.cell?_setCell_same _ _ _ (by rw [far (by omega)]; exact h.cl j hj)]
      simp [updP]
    · rw [far (by omega), far (by omega), h.cl j hj]
      simp [updP, e]
  · rw [far (by omega), far (by omega)]; exact h.cm
/-- the map is turned -/
theorem TP.map (h : TP w b m T P c M) (hm : MapP w1 m c' M') (g : w.grownBy w1 (some m)) : TP w1 b m T P c' M' := by
  have hb : w1.heap[b]? = w.heap[b]? := g.block b h.lt (by intro e; cases e; exact h.ne rfl)
  exact ⟨fun k hk => (World.cell?_of_block (a := ⟨b, k, none⟩) hb).trans (h.ci k hk), fun k hk => (World.cell?_of_block (a := ⟨b, 1024 + k * 2, none⟩) hb).trans (h.cs k hk), fun k hk => (World.cell?_of_block (a := ⟨b, 1024 + k * 2 + 1, none⟩) hb).trans (h.cl k hk), (World.cell?_of_block (a := ⟨b, 3072, none⟩) hb).trans h.cm, fun k => (World.frozen?_of_block (a := ⟨b, k, none⟩) hb).trans (h.z k), h.ne, hm⟩
theorem grown_ch (g : w.grownBy w1 (some m)) : Ch9 (fun k => k = m) w w1 := ⟨g.os, g.tape, g.output, g.size, fun k hk hne => g.block k hk (by intro e; cases e; exact hne rfl)⟩
theorem uhas_c (i : Int) (h : TP w b m T P c M) :
    Calls Tryz.prog 88 #[.pointer (some ⟨b, 0, none⟩), .int .i64 i] w fun e w' => e = .returned (.bool (hasT T i)) ∧ w' = w := by
  by_cases h0 : 0 ≤ i
  · by_cases hn : i < 1024
    · obtain ⟨k, rfl⟩ : ∃ k : Nat, i = k := ⟨i.toNat, by omega⟩
      have hk : k < 1024 := by omega
      rw [hasT_in hk]
      have ci := h.ci k hk
      have d1 : decide ((k : Int) ≥ 0) = true := by simp
      have d2 : decide (0 ≤ (k : Int)) = true := by simp
      have d3 : decide ((k : Int) < 1024) = true := by simp; omega
      clear h
      generalize inR9 T k = x at *
      go_enter Tryz.func88, Tryz.ntmps88
      go_wp2
      go_ret
      exact ⟨by cases x <;> rfl, rfl⟩
    · rw [hasT_out (by omega)]
      have d1 : decide (i ≥ 0) = true := by simpa using h0
      have d2 : decide (0 ≤ i) = true := by simpa using h0
      have d3 : decide (i < 1024) = false := by simp; omega
      clear h
      go_enter Tryz.func88, Tryz.ntmps88
      go_wp2
      go_ret
      exact ⟨rfl, rfl⟩
  · rw [hasT_out (by omega)]
    have d1 : decide (i ≥ 0) = false := by simp; omega
    have d2 : decide (0 ≤ i) = false := by simp; omega
    clear h
    go_enter Tryz.func88, Tryz.ntmps88
    go_wp2
    go_ret
    exact ⟨rfl, rfl⟩
set_option maxHeartbeats 4000000 in
theorem uleast_c (h : TP w b m T P c M) :
    Calls Tryz.prog 156 #[.pointer (some ⟨b, 0, none⟩)] w fun e w' => e = .returned (.int .i64 (frI (freeR T))) ∧ w' = w := by
  have hci := Lib.hid h.ci
  clear h
  go_enter Tryz.func156, Tryz.ntmps156
  go_wp2
  go_loopw [3] (fun i wr => ∃ k : Nat, 4 ≤ k ∧ k ≤ 1024 ∧ i = .int .i64 k ∧ wr = w ∧ ∀ j, 4 ≤ j → j < k → (T j).isNone = false) (fun i _ => 1024 - (intOf i).toNat)
  case atStart => exact ⟨4, by omega, by omega, rfl, rfl, fun j a b => by omega⟩
  case round =>
    obtain ⟨k, hk4, hk, rfl, rfl, hR⟩ := hrel
    by_cases hlt : k < 1024
    · have hlt' : decide ((k : Int) < 1024) = true := by simp; omega
      have hk1 : (k : Int) < 1024 := by omega
      have hw : IntKind.i64.wrap ((k : Int) + 1) = (k : Int) + 1 := by rw [IntKind.wrap_i64]; omega
      have ci := hci.out k hlt
      unfold inR9 at ci
      rcases hT : T k with _ | s
      · rw [hT] at ci
        simp only [Option.isSome] at ci
        have e1 : Hid (freeR T = some k) := Lib.hid (firstIn_hit hk4 hlt (fun j a b => hR j a b) (by show (T k).isNone = true; rw [hT]; rfl))
        clear hT hR
        go_wp2
        go_ret
        rw [e1.out]
        exact ⟨rfl, rfl⟩
      · rw [hT] at ci
        simp only [Option.isSome] at ci
        have hN : Hid (∀ j, 4 ≤ j → j < k + 1 → (T j).isNone = false) := Lib.hid fun j a b => by
          by_cases e : j = k
          · subst e; rw [hT]; rfl
          · exact hR j a (by omega)
        clear hT hR
        go_wp2
        go_roundw
        case rel => exact ⟨k + 1, by omega, by omega, by go_num, trivial, hN.out⟩
        case measure => simp [intOf]; omega
    · have e : k = 1024 := by omega
      subst e
      have e1 : Hid (freeR T = none) := Lib.hid (firstIn_none (fun j a b => hR j a b))
      clear hR
      go_wp2
      go_ret
      rw [e1.out]
      exact ⟨rfl, rfl⟩
end
end Wd
end Go.Proofs.YteiejjmhmmkdhaaGreat

/- The landed table: put, Of, At, New. -/
namespace Go.Proofs.YteiejjmhmmkdhaaGreat
open Go.RowKit Go.Maps
set_option linter.unusedVariables false
set_option maxRecDepth 20000
namespace Wd
def cntP (x : Bool) (c : Nat) : Nat := if x then c else c + 1
theorem wf_nat {k : Nat} (hk : k < 1024) : (Lit.int .i64 (k : Int)).wf = true := WalkArith.wf_i64 ⟨by omega, by omega⟩
section
variable {w w1 : World} {b m c c' : Nat} {T : Tst} {P : Nat → Pl} {M M' : Pl → Option Int}
set_option maxHeartbeats 4000000 in
theorem uput_c (h : TP w b m T P c M) {k : Nat} (hk : k < 1024) (pl : Pl) (hp : plOk pl) (hc : c < maxLen) :
    Calls Tryz.prog 157 #[.pointer (some ⟨b, 0, none⟩), .int .i64 (k : Int), plV pl] w fun e w' => e = .returned (.tuple #[]) ∧ TP w' b m T (updP P k pl) (cntP (M pl).isSome c) (updM M pl (some (k : Int))) ∧ Ch9 (FT b m) w w' := by
  have hk1 : (k : Int) < 1024 := by omega
  have lb := h.lt
  have h1 := h.place hk pl
  have hB : Below ((w.setCell ⟨b, 1024 + k * 2, none⟩ (.int .i64 pl.1)).setCell ⟨b, 1024 + k * 2 + 1, none⟩ (.int .i64 pl.2)).heap.size ((w.setCell ⟨b, 1024 + k * 2, none⟩ (.int .i64 pl.1)).setCell ⟨b, 1024 + k * 2 + 1, none⟩ (.int .i64 pl.2)) (((w.setCell ⟨b, 1024 + k * 2, none⟩ (.int .i64 pl.1)).setCell ⟨b, 1024 + k * 2 + 1, none⟩ (.int .i64 pl.2)).alloc (.cells #[.int .i64 pl.1, .int .i64 pl.2] 124)) := (Below.refl _ _).alloc (Nat.le_refl _) _
  have h2 := (h1.keep hB).drew.drew
  obtain ⟨w2, hrun, hm2, hg2, hz2⟩ := h2.mp.put hc hp (wf_nat hk)
  have h3 : Hid (TP w2 b m T (updP P k pl) (cntP (M pl).isSome c) (updM M pl (some (k : Int)))) := Lib.hid (h2.map hm2 hg2)
  have hch : Hid (Ch9 (FT b m) w w2) := Lib.hid ((((((Ch9.refl (FT b m) w).set ⟨b, 1024 + k * 2, none⟩ (Or.inl rfl) (.int .i64 pl.1)).set ⟨b, 1024 + k * 2 + 1, none⟩ (Or.inl rfl) (.int .i64 pl.2)).trans (below_toCh (FT b m) hB)).drew.drew).trans ((grown_ch hg2).mono (fun j hj => Or.inr hj)))
  have cs := h.cs k hk
  have cl := h.cl k hk
  have z1 := h.z (1024 + k * 2)
  have z2 := h.z (1024 + k * 2 + 1)
  have cm := h.cm
  have ne : w.heap.size ≠ b := by omega
  have ne' := Ne.symm ne
  have n1 : ¬ (1024 + k * 2 = 3072) := by omega
  have n2 : ¬ (1024 + k * 2 + 1 = 3072) := by omega
  clear h h1 h2 hm2 hg2 hz2 hB hc hp
  obtain ⟨pa, pc⟩ := pl
  unfold plV at *
  simp only at *
  go_enter Tryz.func157, Tryz.ntmps157
  go_wp2
  go_region
  go_wp2
  go_region
  go_wp2
  go_end0
  exact ⟨rfl, h3.out, hch.out⟩
set_option maxHeartbeats 4000000 in
theorem uat_c (h : TP w b m T P c M) (i : Int) (hT : ∀ k q, T k = some q → P k = q) :
    Calls Tryz.prog 73 #[.pointer (some ⟨b, 0, none⟩), .int .i64 i] w fun e w' => e = .returned (.tuple #[plV (atP T i), .bool (hasT T i)]) ∧ Below w.heap.size w w' := by
  have hB : Below w.heap.size w (w.alloc (.cells #[.int .i64 0, .int .i64 0] 124)) := (Below.refl _ _).alloc (Nat.le_refl _) _
  have P0 := uhas_c i (h.keep hB)
  have lb := h.lt
  cases hh : hasT T i
  · rw [atP_no hh]
    rw [hh] at P0
    replace P0 := Lib.hid P0
    replace hB := Lib.hid hB
    clear hh h
    unfold plV
    go_enter Tryz.func73, Tryz.ntmps73
    go_wp2_with (first | (go_at_call 88; ((with_reducible refine P0.out.mono ?_); rintro e w' ⟨rfl, hw'⟩; subst w')))
    go_returns
    exact ⟨rfl, (Below.refl _ _).alloc (Nat.le_refl _) _⟩
  · obtain ⟨k, rfl, hk, ⟨pa, pc⟩, hTk, ha⟩ := atP_has hh
    rw [ha]
    rw [hh] at P0
    replace P0 := Lib.hid P0
    replace hB := Lib.hid hB
    have hk1 : (k : Int) < 1024 := by omega
    have cs := h.cs k hk
    have cl := h.cl k hk
    rw [hT k _ hTk] at cs cl
    simp only at cs cl
    have ne : w.heap.size ≠ b := by omega
    have ne' := Ne.symm ne
    clear hh h hTk ha hT
    unfold plV
    go_enter Tryz.func73, Tryz.ntmps73
    go_wp2_with (first | (go_at_call 88; ((with_reducible refine P0.out.mono ?_); rintro e w' ⟨rfl, hw'⟩; subst w')))
    go_returns
    exact ⟨rfl, (Below.refl _ _).alloc (Nat.le_refl _) _⟩
end
end Wd
end Go.Proofs.YteiejjmhmmkdhaaGreat

/- The landed table: New, IDs. -/
namespace Go.Proofs.YteiejjmhmmkdhaaGreat
open Go.RowKit Go.Maps
set_option linter.unusedVariables false
set_option maxRecDepth 20000
namespace Wd
def zeroU (m : Nat) : Array Value := (List.replicate 1024 (Value.bool false) ++ List.replicate 2048 (Value.int .i64 0) ++ [Value.map (some m)]).toArray
def zeroW : Array Value := (List.replicate 1024 (Value.bool false) ++ List.replicate 2048 (Value.int .i64 0) ++ [Value.map none]).toArray
theorem infoU9 : (Tryz.prog.info? 127).map (fun i => i.zero) = some (some (.agg zeroW)) := by kernel_rfl
theorem run_zeroU (w : World) : Sem.run Tryz.prog (zeroValue 127) w = .ok (.agg zeroW) w := by
  have h := infoU9
  cases hi : Tryz.prog.info? 127 with
  | none => rw [hi] at h; cases h
  | some i =>
    rw [hi] at h
    have hz : i.zero = some (.agg zeroW) := by simpa using h
    simp [zeroValue, typeInfo, hi, hz]
theorem zeroW_size : zeroW.size = 3073 := by simp [zeroW]
theorem zeroW_set (m : Nat) : zeroW.setIfInBounds 3072 (.map (some m)) = zeroU m := by
  unfold zeroW zeroU
  rw [List.setIfInBounds_toArray, List.set_append_right _ _ (by simp)]
  simp
theorem zeroU_in {m k : Nat} (hk : k < 1024) : (zeroU m)[k]? = some (.bool false) := by
  unfold zeroU
  rw [List.getElem?_toArray, List.append_assoc, List.getElem?_append_left (by rw [List.length_replicate]; exact hk), List.getElem?_replicate, if_pos hk]
theorem zeroU_at {m k : Nat} (h1 : 1024 ≤ k) (h2 : k < 3072) : (zeroU m)[k]? = some (.int .i64 0) := by
  unfold zeroU
  rw [List.getElem?_toArray, List.append_assoc, List.getElem?_append_right (by rw [List.length_replicate]; exact h1), List.length_replicate, List.getElem?_append_left (by rw [List.length_replicate]; omega), List.getElem?_replicate, if_pos (by omega)]
theorem zeroU_map {m : Nat} : (zeroU m)[3072]? = some (.map (some m)) := by
  unfold zeroU
  rw [List.getElem?_toArray, List.getElem?_append_right (by simp)]
  simp
theorem zero_tp (w : World) : TP ((w.alloc (.map #[] 0)).alloc (.cells (zeroU w.heap.size) 127)) (w.heap.size + 1) w.heap.size noT (fun _ => (0, 0)) 0 (fun _ => none) := by
  have hmp := MapP.made w
  have hs : (w.alloc (.map #[] 0)).heap.size = w.heap.size + 1 := by simp
  have hm2 := hmp.same (w1 := (w.alloc (.map #[] 0)).alloc (.cells (zeroU w.heap.size) 127)) (Below.heap_alloc _ _ _ (by simp))
  have hh : ((w.alloc (.map #[] 0)).alloc (.cells (zeroU w.heap.size) 127)).heap[w.heap.size + 1]? = some (.cells (zeroU w.heap.size) 127 (0, 0)) := by
    rw [← hs]; exact heap_alloc_new _ _
  clear hmp hs
  generalize (w.alloc (.map #[] 0)).alloc (.cells (zeroU w.heap.size) 127) = W at *
  generalize hm : w.heap.size = s at *
  refine ⟨fun k hk => ?_, fun k hk => ?_, fun k hk => ?_, ?_, fun k => by simp [World.frozen?, hh], by omega, hm2⟩
  · simp [World.cell?, hh, zeroU_in hk, inR9, noT]
  · simp [World.cell?, hh, zeroU_at (m := s) (k := 1024 + k * 2) (by omega) (by omega)]
  · simp [World.cell?, hh, zeroU_at (m := s) (k := 1024 + k * 2 + 1) (by omega) (by omega)]
  · simp [World.cell?, hh, zeroU_map]
set_option maxHeartbeats 4000000 in
theorem unew_c (w : World) : Calls Tryz.prog 49 #[] w fun e w' => e = .returned (.pointer (some ⟨w.heap.size + 1, 0, none⟩)) ∧ TP w' (w.heap.size + 1) w.heap.size noT (fun _ => (0, 0)) 0 (fun _ => none) ∧ Below w.heap.size w w' := by
  have hZ := Lib.hid (zero_tp w)
  have hB : Hid (Below w.heap.size w ((w.alloc (.map #[] 0)).alloc (.cells (zeroU w.heap.size) 127))) := Lib.hid (((Below.refl _ _).alloc (Nat.le_refl _) _).alloc (by simp) _)
  have hb := run_zeroU
  have hs := zeroW_set w.heap.size
  have hz : ¬ (zeroW.size < 3073) := by rw [zeroW_size]; omega
  generalize zeroU w.heap.size = ZU at *
  generalize zeroW = ZW at *
  have hmm := @run_makeMap Tryz.prog
  go_enter Tryz.func49, Tryz.ntmps49
  go_wp2
  go_ret
  exact ⟨by simp, hZ.out, hB.out⟩
/-- who is there, as an array by value -/
def bitsU (T : Tst) : List Value := (List.range 1024).map (fun k => Value.bool (inR9 T k))
theorem bitsU_len (T : Tst) : (bitsU T).length = 1024 := by simp [bitsU]
theorem bitsU_at {T : Tst} {k : Nat} (hk : k < 1024) : (bitsU T).toArray[k]? = some (.bool (inR9 T k)) := by
  rw [List.getElem?_toArray]
  unfold bitsU
  rw [List.getElem?_map, List.getElem?_range hk]
  rfl
section
variable {w : World} {b m c : Nat} {T : Tst} {P : Nat → Pl} {M : Pl → Option Int}
theorem TP.range (h : TP w b m T P c M) : w.rangeAt b 0 (bitsU T) := by
  intro j v hj
  have hlt : j < 1024 := by
    have := (List.getElem?_eq_some_iff.1 hj).1
    rw [bitsU_len] at this; exact this
  have e := bitsU_at (T := T) hlt
  rw [List.getElem?_toArray, hj] at e
  cases e
  rw [Nat.zero_add]
  exact h.ci j hlt
/-- those that were told so far -/
structure IUt (w : World) (T : Tst) (k : Nat) (v : Value) (wr : World) : Prop where
  own : wr.ownsRow w.heap.size 3 1 v (idsK T k).length (ints (idsK T k))
  bel : Below w.heap.size w wr
theorem IUt.next {w wr w1 : World} {T : Tst} {k g cap : Nat} {v : Value} (h : IUt w T k v wr) (hk : inR9 T k = true)
    {c : Array Value} {t : TypeId} (hown : w1.ownsRow w.heap.size 3 1 (.slice (some ⟨g, 0, none⟩) ((idsK T k).length + 1) cap) ((idsK T k).length + 1) (ints (idsK T k) ++ ints [(k : Int)])) (hg : (wr.alloc (.cells c t)).grownBy w1 v.ownBlock) :
    IUt w T (k + 1) (.slice (some ⟨g, 0, none⟩) ((idsK T k).length + 1) cap) w1 := by
  refine ⟨?_, ?_⟩
  · rw [idsK_in hk]
    simpa [ints] using hown
  · exact (h.bel.alloc h.bel.size _).grown hg (by have := h.bel.size; simp; omega) (fun k' hk => (h.own.lt k' hk).1)
end
end Wd
end Go.Proofs.YteiejjmhmmkdhaaGreat

/- The landed table: Take, Give, Swap. -/
namespace Go.Proofs.YteiejjmhmmkdhaaGreat
open Go.RowKit Go.Maps
set_option linter.unusedVariables false
set_option maxRecDepth 20000
namespace Wd
section
variable {w w1 : World} {b m c c' : Nat} {T : Tst} {P : Nat → Pl} {M M' : Pl → Option Int}
set_option maxHeartbeats 4000000 in
theorem utake_had (pl : Pl) (hp : plOk pl) (h : TP w b m T P c M) (hM : (M pl).isSome = true) :
    Calls Tryz.prog 152 #[.pointer (some ⟨b, 0, none⟩), plV pl] w fun e w' => e = .returned (.int .i64 (-1)) ∧ Below w.heap.size w w' := by
  have hB : Below w.heap.size w (w.alloc (.cells #[.int .i64 pl.1, .int .i64 pl.2] 124)) := (Below.refl _ _).alloc (Nat.le_refl _) _
  have hrun := (h.keep hB).drew.mp.look_ok hp
  rw [hM] at hrun
  replace hB := Lib.hid hB
  have cm := h.cm
  have lb := h.lt
  clear h hp hM
  generalize (M pl).getD 0 = x at *
  obtain ⟨pa, pc⟩ := pl
  unfold plV at *
  simp only at *
  go_enter Tryz.func152, Tryz.ntmps152
  go_wp2
  go_region
  go_wp2
  go_ret
  exact ⟨rfl, hB.out.drew⟩
set_option maxHeartbeats 4000000 in
theorem utake_full (pl : Pl) (hp : plOk pl) (h : TP w b m T P c M) (hM : (M pl).isSome = false) (hf : freeR T = none) :
    Calls Tryz.prog 152 #[.pointer (some ⟨b, 0, none⟩), plV pl] w fun e w' => e = .returned (.int .i64 (-1)) ∧ Below w.heap.size w w' := by
  have hB : Below w.heap.size w (w.alloc (.cells #[.int .i64 pl.1, .int .i64 pl.2] 124)) := (Below.refl _ _).alloc (Nat.le_refl _) _
  have hrun := (h.keep hB).drew.mp.look_ok hp
  rw [hM] at hrun
  have P0 := uleast_c (h.keep hB).drew
  rw [hf] at P0
  unfold frI at P0
  replace P0 := Lib.hid P0
  replace hB := Lib.hid hB
  have cm := h.cm
  have lb := h.lt
  clear h hp hM hf
  generalize (M pl).getD 0 = x at *
  obtain ⟨pa, pc⟩ := pl
  unfold plV at *
  simp only at *
  go_enter Tryz.func152, Tryz.ntmps152
  go_wp2
  go_region
  go_wp2_with (first | (go_at_call 156; ((with_reducible refine P0.out.mono ?_); rintro e w' ⟨rfl, hw'⟩; subst w')))
  go_ret
  exact ⟨rfl, hB.out.drew⟩
set_option maxHeartbeats 4000000 in
theorem utake_yes (pl : Pl) (hp : plOk pl) {k : Nat} (h : TP w b m T P c M) (hM : (M pl).isSome = false) (hf : freeR T = some k) (hk : k < 1024) (hc : c < maxLen) :
    Calls Tryz.prog 152 #[.pointer (some ⟨b, 0, none⟩), plV pl] w fun e w' => e = .returned (.int .i64 (k : Int)) ∧ TP w' b m (updT T k (some pl)) (updP P k pl) (c + 1) (updM M pl (some (k : Int))) ∧ Ch9 (FT b m) w w' := by
  have hB : Below w.heap.size w (w.alloc (.cells #[.int .i64 pl.1, .int .i64 pl.2] 124)) := (Below.refl _ _).alloc (Nat.le_refl _) _
  have h1 := (h.keep hB).drew
  have hrun := h1.mp.look_ok hp
  rw [hM] at hrun
  have P0 := uleast_c h1
  rw [hf] at P0
  unfold frI at P0
  replace P0 := Lib.hid P0
  have hA := h.tell hk (some pl)
  have hB2 : Below (w.setCell ⟨b, k, none⟩ (.bool (some pl).isSome)).heap.size (w.setCell ⟨b, k, none⟩ (.bool (some pl).isSome)) ((w.setCell ⟨b, k, none⟩ (.bool (some pl).isSome)).alloc (.cells #[.int .i64 pl.1, .int .i64 pl.2] 124)) := (Below.refl _ _).alloc (Nat.le_refl _) _
  have h2 := (hA.keep hB2).drew
  have P1 := uput_c h2 hk pl hp hc
  rw [hM] at P1
  unfold cntP at P1
  rw [if_neg (by simp)] at P1
  replace P1 := Lib.hid P1
  have hc2 : Hid (Ch9 (FT b m) w _) := Lib.hid ((((Ch9.refl (FT b m) w).set ⟨b, k, none⟩ (Or.inl rfl) (.bool (some pl).isSome)).trans (below_toCh (FT b m) hB2)).drew)
  have cm := h.cm
  have lb := h.lt
  have ci := h.ci k hk
  have zk := h.z k
  have hk1 : (k : Int) < 1024 := by omega
  have hk2 : ((k : Int) == -1) = false := by simp
  have ne : w.heap.size ≠ b := by omega
  have ne' := Ne.symm ne
  clear h hp hM hf h1 h2 hB hA hB2
  generalize (M pl).getD 0 = x at *
  obtain ⟨pa, pc⟩ := pl
  unfold plV at *
  simp only [Option.isSome_some] at *
  go_enter Tryz.func152, Tryz.ntmps152
  go_wp2
  go_region
  go_wp2_with (first | (go_at_call 156; ((with_reducible refine P0.out.mono ?_); rintro e w' ⟨rfl, hw'⟩; subst w')) | (go_at_call 157; ((with_reducible refine P1.out.mono ?_); rintro e w' ⟨rfl, h3, c3⟩; replace h3 := Lib.hid h3; replace c3 := Lib.hid (hc2.out.trans c3))))
  go_ret
  exact ⟨rfl, h3.out, c3.out⟩
end
end Wd
end Go.Proofs.YteiejjmhmmkdhaaGreat

/- The landed table does what the laws ask of it. -/
namespace Go.Proofs.YteiejjmhmmkdhaaGreat
open Go.RowKit Go.Maps
set_option linter.unusedVariables false
set_option maxRecDepth 20000
namespace Wd
def TA (w : World) (p : Nat) (T : Tst) (F : Nat → Prop) : Prop :=
  ∃ m P, TP w p m T P (idsT T).length (mapOf T) ∧ Inv T ∧ (∀ k q, T k = some q → P k = q) ∧ F = FT p m
theorem mapOf_no : mapOf noT = fun _ => none := by
  funext q
  exact mapOf_none (fun k h => by cases h)
theorem ids_no : (idsT noT).length = 0 := by
  rw [idsT_def]
  simp [noT]
theorem newer_refl (F : Nat → Prop) (s : Nat) : Newer9 F F s := fun k h => Or.inl h
theorem ids_lt (T : Tst) : (idsT T).length < maxLen := Nat.lt_of_le_of_lt (idsT_len T) (by decide)
theorem KT : TableK TA := by
  constructor
  case lt =>
    rintro w p T F ⟨m, P, h, hI, hP, rfl⟩ k hk
    rcases hk with rfl | rfl
    · exact h.lt
    · exact h.mp.lt
  case keep =>
    rintro w w' p T F ⟨m, P, h, hI, hP, rfl⟩ hk
    exact ⟨m, P, h.same (hk p (Or.inl rfl)) (hk m (Or.inr rfl)), hI, hP, rfl⟩
  case take =>
    rintro w p T F pl ⟨m, P, h, hI, hP, rfl⟩ hp
    have hM := (mapOf_getD T pl).2
    cases ho : ofR T pl with
    | some j =>
      rw [ho] at hM
      have e1 : takeI T pl = -1 := by unfold takeI; rw [ho]; rfl
      have e2 : takeT T pl = T := by unfold takeT; rw [ho]; rfl
      rw [e1, e2]
      refine (utake_had pl hp h hM).mono ?_
      rintro e w' ⟨rfl, hb⟩
      exact ⟨_, rfl, ⟨m, P, h.keep hb, hI, hP, rfl⟩, below_toCh _ hb, newer_refl _ _⟩
    | none =>
      rw [ho] at hM
      cases hf : freeR T with
      | none =>
        have e1 : takeI T pl = -1 := by unfold takeI; rw [ho, hf]; rfl
        have e2 : takeT T pl = T := by unfold takeT; rw [ho, hf]; rfl
        rw [e1, e2]
        refine (utake_full pl hp h hM hf).mono ?_
        rintro e w' ⟨rfl, hb⟩
        exact ⟨_, rfl, ⟨m, P, h.keep hb, hI, hP, rfl⟩, below_toCh _ hb, newer_refl _ _⟩
      | some k =>
        obtain ⟨k1, k2, hk⟩ := freeR_at hf
        have e1 : takeI T pl = (k : Int) := by unfold takeI; rw [ho, hf]; rfl
        have e2 : takeT T pl = updT T k (some pl) := by unfold takeT; rw [ho, hf]; rfl
        rw [e1, e2]
        refine (utake_yes pl hp h hM hf k2 (ids_lt T)).mono ?_
        rintro e w' ⟨rfl, h', hc⟩
        rw [← ids_take k2 hk (p := pl), ← mapOf_take hI hp ho hf] at h'
        refine ⟨_, rfl, ⟨m, _, h', hI.upd k1 k2 hp (fun j _ => ofR_none hI ho j), fun j q hj => ?_, rfl⟩, hc, newer_refl _ _⟩
        unfold updT at hj
        unfold updP
        by_cases c : j = k
        · rw [if_pos c] at hj ⊢; cases hj; rfl
        · rw [if_neg c] at hj ⊢; exact hP j q hj
  case at' =>
    rintro w p T F i ⟨m, P, h, hI, hP, rfl⟩ _ _
    exact uat_c h i hP
  case new =>
    intro w
    refine (unew_c w).mono ?_
    rintro e w' ⟨rfl, h, hb⟩
    refine ⟨_, _, rfl, ⟨w.heap.size, fun _ => (0, 0), ?_, Inv.no, fun k q hk => (by cases hk), rfl⟩, fun k hk => ?_, hb⟩
    · rw [ids_no, mapOf_no]; exact h
    · rcases hk with rfl | rfl <;> omega
end Wd
end Go.Proofs.YteiejjmhmmkdhaaGreat
