/- The package's mill: one cell goes from its row to the end of another. -/
import Derived.Test.YtjobeomadkaeoaaGMath
import Derived.StillTailTactics
import Derived.BigRegion
namespace Go.Proofs.Ytjobeomadkaeoaa
open Go.RowKit
set_option linter.unusedVariables false
namespace Wd
set_option maxHeartbeats 8000000 in
theorem gmove_c {w : World} {p n k x y : Nat} {A : Mst} {F : Nat → Prop} {P Q : List Int} (h : MA w p n A F) (hx : x < 4) (hy : y < 4) (hxy : x ≠ y) (hA : A x = P ++ (k : Int) :: Q) :
    Calls Try.prog 27 #[.pointer (some ⟨p, 0, none⟩), .int .i64 (k : Int), .int .i64 (y : Int)] w fun e w' => e = .returned (.tuple #[]) ∧ MA w' p n (mvA A x y P Q k) F ∧ Ch F w w' := by
  obtain ⟨q, gc, FR, cs, fs, ns, rfl, hS, hT, hC, hG, h1, h2⟩ := h
  have hm : (k : Int) ∈ A x := by rw [hA]; simp
  have hkn : k < n := by have := (good_mem hG).1 (mem_LL.2 ⟨x, hx, hm⟩); omega
  have hO := Lib.hid (mid_out hG hx hA)
  have eBy : Hid ((upA A x (P ++ Q)) y = A y) := Lib.hid (by unfold upA; rw [if_neg (Ne.symm hxy)])
  have eny : Hid (upd ns x (ns x - 1) y = ns y) := Lib.hid (upd_ne _ _ (Ne.symm hxy))
  have hk0 : (0 : Int) ≤ k := by omega
  have hk1 : (k : Int) < n := by omega
  have hni : Hid ((k : Int) ∉ LL (upA A x (P ++ Q))) := Lib.hid (by
    rw [← hO.out]
    intro hi
    exact ((mem_outL (good_nd hG) (mem_LL.2 ⟨x, hx, hm⟩) _).1 hi).2 rfl)
  have T1 := Lib.hid (mt_out hT hx (good_nd hG) hA)
  have c0 := hS.c0
  have c1 := hS.c1
  have hcol := hS.cc k hkn
  rw [hC k hkn, good_color hG hx hm] at hcol
  have hf := hS.cf x hx
  have zf := hS.zp (2 + x)
  have hx4 : (x : Int) < 4 := by omega
  have hy4 : (y : Int) < 4 := by omega
  have nx0 : 1 ≤ ns x := by rw [hT.en x hx, hA]; simp; omega
  have nx1 : ns x ≤ 512 := by rw [hT.en x hx]; have := good_le hG x hx; omega
  have ny0 : 0 ≤ ns y := by rw [hT.en y hy]; omega
  have ny1 : ns y ≤ 512 := by rw [hT.en y hy]; have := good_le hG y hy; omega
  have wx : IntKind.i64.wrap (ns x - 1) = ns x - 1 := by rw [IntKind.wrap_i64]; omega
  have wy : IntKind.i64.wrap (ns y + 1) = ns y + 1 := by rw [IntKind.wrap_i64]; omega
  have hB' : (A y = [] ∧ ns y = 0) ∨ (A y ≠ [] ∧ (ns y == 0) = false) := by
    rcases hE : A y with _ | ⟨a, U⟩
    · exact Or.inl ⟨rfl, by rw [hT.en y hy, hE]; rfl⟩
    · exact Or.inr ⟨by simp, by rw [hT.en y hy, hE]; simp; omega⟩
  have hR := Lib.hid hS.ring
  have hRd := Lib.hid hS.drew.ring
  replace hC := Lib.hid hC
  replace hG := Lib.hid hG
  replace hm := Lib.hid hm
  by_cases hP : P = []
  · have ef : fs x = k := hT.ef x hx k Q (by rw [hA, hP]; rfl)
    rw [ef] at hf
    rw [if_pos hP] at T1
    replace hS := Lib.hid hS
    replace hT := Lib.hid hT
    replace hP := Lib.hid hP
    replace hA := Lib.hid hA
    clear ef
    go_enter Try.func27, Try.ntmps27
    go_wp2
    refine wp_region_still_tail 11 (by kernel_rfl) (by kernel_rfl) ?_
    simp only [List.take_succ_cons, List.take_zero, List.drop_succ_cons, List.drop_zero]
    iterate 7 still_step
    still_call (next_k _ hRd.out)
    iterate 3 still_step
    refine wpStill_nil ?_
    have S0 := hS.out.drew
    have C0 := (Ch.refl (FM p gc FR) w).drew
    change wpList _ _ _ _ _ w.drew
    generalize w.drew = w0 at S0 C0 ⊢
    clear c0 c1 hcol hf zf hS hR hRd
    have hf := S0.cf x hx
    have zf := S0.zp (2 + x)
    replace S0 := Lib.hid S0
    replace C0 := Lib.hid C0
    go_wp2
    have S1 := S0.out.setF hx (nxt (LL A) k)
    have C1 := C0.out.set ⟨p, 2 + x, none⟩ (Or.inl rfl) (.int .i64 (nxt (LL A) k))
    generalize w0.setCell ⟨p, 2 + x, none⟩ (.int .i64 (nxt (LL A) k)) = w1 at S1 C1 ⊢
    clear hf zf S0 C0
    have n1 := S1.cn x hx
    have z1 := S1.zp (6 + x)
    replace S1 := Lib.hid S1
    replace C1 := Lib.hid C1
    go_region
    have S2 := (S1.out.setN hx (ns x - 1)).drew
    have C2 := (C1.out.set ⟨p, 6 + x, none⟩ (Or.inl rfl) (.int .i64 (ns x - 1))).drew
    generalize (w1.setCell ⟨p, 6 + x, none⟩ (.int .i64 (ns x - 1))).drew = w2 at S2 C2 ⊢
    clear n1 z1 S1 C1
    have c2 := S2.c0
    have r2 := Lib.hid S2.ring
    replace S2 := Lib.hid S2
    replace C2 := Lib.hid C2
    go_wp2_with (first | (go_at_call 33; ((with_reducible refine (out_k _ r2.out).mono ?_); rintro e w3 ⟨he, d1, d2⟩; subst he; rw [hO.out] at d1; have S3 := S2.out.rung h1 d1 d2; have C3 := Lib.hid (C2.out.trans (d2.mono (fun j hj => Or.inr (Or.inr hj)))); clear d1 d2 c2 r2 S2 C2; have c3 := S3.c0; have S3d := Lib.hid S3.drew; have r3 := Lib.hid S3.drew.ring; replace S3 := Lib.hid S3)))
    refine wp_region_still_tail 8 (by kernel_rfl) (by kernel_rfl) ?_
    simp only [List.take_succ_cons, List.take_zero, List.drop_succ_cons, List.drop_zero]
    iterate 7 still_step
    still_call (gbehind_c hy S3d.out T1.out)
    refine wpStill_nil ?_
    change wpList _ _ _ _ _ w3.drew
    rcases hB' with ⟨hB, e0⟩ | ⟨hB, e0⟩
    · replace hB := Lib.hid hB
      go_wp2_with (first | (go_at_call 34; ((with_reducible refine (ring_in r3.out hni.out hk0 hk1 hy).mono ?_); rintro e w4 ⟨he, d1, d2⟩; subst he; rw [eBy.out] at d1; have S4 := S3d.out.rung h1 d1 d2; have C4 := Lib.hid (C3.out.drew.trans (d2.mono (fun j hj => Or.inr (Or.inr hj)))); clear d1 d2 c3 r3 S3 S3d C3; have n4 := S4.cn y hy; rw [eny.out, e0] at n4; have f4 := S4.cf y hy; have z4 := S4.zp (2 + y); replace S4 := Lib.hid S4)))
      have S5 := S4.out.setF hy k
      have C5 := C4.out.set ⟨p, 2 + y, none⟩ (Or.inl rfl) (.int .i64 k)
      generalize w4.setCell ⟨p, 2 + y, none⟩ (.int .i64 k) = w5 at S5 C5 ⊢
      clear n4 f4 z4 S4 C4
      have n5 := S5.cn y hy
      have z5 := S5.zp (6 + y)
      rw [eny.out, e0] at n5
      replace S5 := Lib.hid S5
      replace C5 := Lib.hid C5
      go_region
      have S6 := (S5.out.setN hy (1)).drew
      have C6 := (C5.out.set ⟨p, 6 + y, none⟩ (Or.inl rfl) (.int .i64 (1))).drew
      generalize (w5.setCell ⟨p, 6 + y, none⟩ (.int .i64 (1))).drew = w6 at S6 C6 ⊢
      clear n5 z5 S5 C5
      have c6 := S6.c1
      have f6 := S6.cc k hkn
      have z6 := S6.zc k
      replace S6 := Lib.hid S6
      replace C6 := Lib.hid C6
      go_wp2
      go_end0
      refine ⟨rfl, ⟨q, gc, FR, _, _, _, rfl, S6.out.setC hkn y, ?_, color_mv hG.out hx hy hxy hA.out hC.out, good_mv hG.out hx hy hxy hA.out, h1, h2⟩, C6.out.set _ (Or.inr (Or.inl rfl)) _⟩
      have T2 := mt_in (i := (k : Int)) T1.out hy
      rw [eBy.out, if_pos hB.out, eny.out, e0] at T2
      exact T2
    · replace hB := Lib.hid hB
      go_wp2_with (first | (go_at_call 34; ((with_reducible refine (ring_in r3.out hni.out hk0 hk1 hy).mono ?_); rintro e w4 ⟨he, d1, d2⟩; subst he; rw [eBy.out] at d1; have S4 := S3d.out.rung h1 d1 d2; have C4 := Lib.hid (C3.out.drew.trans (d2.mono (fun j hj => Or.inr (Or.inr hj)))); clear d1 d2 c3 r3 S3 S3d C3; have n4 := S4.cn y hy; rw [eny.out] at n4; have f4 := S4.cf y hy; have z4 := S4.zp (2 + y); replace S4 := Lib.hid S4)))
      have S5 := S4.out
      have C5 := C4.out
      clear f4 z4 n4 S4 C4
      have n5 := S5.cn y hy
      have z5 := S5.zp (6 + y)
      rw [eny.out] at n5
      replace S5 := Lib.hid S5
      replace C5 := Lib.hid C5
      go_region
      have S6 := (S5.out.setN hy (ns y + 1)).drew
      have C6 := (C5.out.set ⟨p, 6 + y, none⟩ (Or.inl rfl) (.int .i64 (ns y + 1))).drew
      generalize (w4.setCell ⟨p, 6 + y, none⟩ (.int .i64 (ns y + 1))).drew = w6 at S6 C6 ⊢
      clear n5 z5 S5 C5
      have c6 := S6.c1
      have f6 := S6.cc k hkn
      have z6 := S6.zc k
      replace S6 := Lib.hid S6
      replace C6 := Lib.hid C6
      go_wp2
      go_end0
      refine ⟨rfl, ⟨q, gc, FR, _, _, _, rfl, S6.out.setC hkn y, ?_, color_mv hG.out hx hy hxy hA.out hC.out, good_mv hG.out hx hy hxy hA.out, h1, h2⟩, C6.out.set _ (Or.inr (Or.inl rfl)) _⟩
      have T2 := mt_in (i := (k : Int)) T1.out hy
      rw [eBy.out, if_neg hB.out, eny.out] at T2
      exact T2
  · have ef : (fs x == (k : Int)) = false := by
      rcases P with _ | ⟨b, P'⟩
      · exact absurd rfl hP
      · rw [hT.ef x hx b (P' ++ (k : Int) :: Q) (by rw [hA]; rfl)]
        have hn : (A x).Nodup := by
          obtain ⟨X, Y, e⟩ := in_LL (A := A) hx
          have := good_nd hG.out
          rw [show A 0 ++ (A 1 ++ (A 2 ++ A 3)) = LL A from rfl, e] at this
          exact (List.nodup_append.1 (List.nodup_append.1 this).2.1).1
        rw [hA] at hn
        have : b ≠ (k : Int) := fun e => (List.nodup_append.1 hn).2.2 b (by simp) k (by simp) e
        simpa using this
    rw [if_neg hP] at T1
    have S1 := hS
    have C1 := Ch.refl (FM p gc FR) w
    replace hT := Lib.hid hT
    replace hP := Lib.hid hP
    replace hA := Lib.hid hA
    clear hR hRd hS
    go_enter Try.func27, Try.ntmps27
    have n1 := S1.cn x hx
    have z1 := S1.zp (6 + x)
    replace S1 := Lib.hid S1
    replace C1 := Lib.hid C1
    go_wp2
    clear c0 c1 hcol hf zf ef
    go_region
    have S2 := (S1.out.setN hx (ns x - 1)).drew
    have C2 := (C1.out.set ⟨p, 6 + x, none⟩ (Or.inl rfl) (.int .i64 (ns x - 1))).drew
    generalize (w.setCell ⟨p, 6 + x, none⟩ (.int .i64 (ns x - 1))).drew = w2 at S2 C2 ⊢
    clear n1 z1 S1 C1
    have c2 := S2.c0
    have r2 := Lib.hid S2.ring
    replace S2 := Lib.hid S2
    replace C2 := Lib.hid C2
    go_wp2_with (first | (go_at_call 33; ((with_reducible refine (out_k _ r2.out).mono ?_); rintro e w3 ⟨he, d1, d2⟩; subst he; rw [hO.out] at d1; have S3 := S2.out.rung h1 d1 d2; have C3 := Lib.hid (C2.out.trans (d2.mono (fun j hj => Or.inr (Or.inr hj)))); clear d1 d2 c2 r2 S2 C2; have c3 := S3.c0; have S3d := Lib.hid S3.drew; have r3 := Lib.hid S3.drew.ring; replace S3 := Lib.hid S3)))
    refine wp_region_still_tail 8 (by kernel_rfl) (by kernel_rfl) ?_
    simp only [List.take_succ_cons, List.take_zero, List.drop_succ_cons, List.drop_zero]
    iterate 7 still_step
    still_call (gbehind_c hy S3d.out T1.out)
    refine wpStill_nil ?_
    change wpList _ _ _ _ _ w3.drew
    rcases hB' with ⟨hB, e0⟩ | ⟨hB, e0⟩
    · replace hB := Lib.hid hB
      go_wp2_with (first | (go_at_call 34; ((with_reducible refine (ring_in r3.out hni.out hk0 hk1 hy).mono ?_); rintro e w4 ⟨he, d1, d2⟩; subst he; rw [eBy.out] at d1; have S4 := S3d.out.rung h1 d1 d2; have C4 := Lib.hid (C3.out.drew.trans (d2.mono (fun j hj => Or.inr (Or.inr hj)))); clear d1 d2 c3 r3 S3 S3d C3; have n4 := S4.cn y hy; rw [eny.out, e0] at n4; have f4 := S4.cf y hy; have z4 := S4.zp (2 + y); replace S4 := Lib.hid S4)))
      have S5 := S4.out.setF hy k
      have C5 := C4.out.set ⟨p, 2 + y, none⟩ (Or.inl rfl) (.int .i64 k)
      generalize w4.setCell ⟨p, 2 + y, none⟩ (.int .i64 k) = w5 at S5 C5 ⊢
      clear n4 f4 z4 S4 C4
      have n5 := S5.cn y hy
      have z5 := S5.zp (6 + y)
      rw [eny.out, e0] at n5
      replace S5 := Lib.hid S5
      replace C5 := Lib.hid C5
      go_region
      have S6 := (S5.out.setN hy (1)).drew
      have C6 := (C5.out.set ⟨p, 6 + y, none⟩ (Or.inl rfl) (.int .i64 (1))).drew
      generalize (w5.setCell ⟨p, 6 + y, none⟩ (.int .i64 (1))).drew = w6 at S6 C6 ⊢
      clear n5 z5 S5 C5
      have c6 := S6.c1
      have f6 := S6.cc k hkn
      have z6 := S6.zc k
      replace S6 := Lib.hid S6
      replace C6 := Lib.hid C6
      go_wp2
      go_end0
      refine ⟨rfl, ⟨q, gc, FR, _, _, _, rfl, S6.out.setC hkn y, ?_, color_mv hG.out hx hy hxy hA.out hC.out, good_mv hG.out hx hy hxy hA.out, h1, h2⟩, C6.out.set _ (Or.inr (Or.inl rfl)) _⟩
      have T2 := mt_in (i := (k : Int)) T1.out hy
      rw [eBy.out, if_pos hB.out, eny.out, e0] at T2
      exact T2
    · replace hB := Lib.hid hB
      go_wp2_with (first | (go_at_call 34; ((with_reducible refine (ring_in r3.out hni.out hk0 hk1 hy).mono ?_); rintro e w4 ⟨he, d1, d2⟩; subst he; rw [eBy.out] at d1; have S4 := S3d.out.rung h1 d1 d2; have C4 := Lib.hid (C3.out.drew.trans (d2.mono (fun j hj => Or.inr (Or.inr hj)))); clear d1 d2 c3 r3 S3 S3d C3; have n4 := S4.cn y hy; rw [eny.out] at n4; have f4 := S4.cf y hy; have z4 := S4.zp (2 + y); replace S4 := Lib.hid S4)))
      have S5 := S4.out
      have C5 := C4.out
      clear f4 z4 n4 S4 C4
      have n5 := S5.cn y hy
      have z5 := S5.zp (6 + y)
      rw [eny.out] at n5
      replace S5 := Lib.hid S5
      replace C5 := Lib.hid C5
      go_region
      have S6 := (S5.out.setN hy (ns y + 1)).drew
      have C6 := (C5.out.set ⟨p, 6 + y, none⟩ (Or.inl rfl) (.int .i64 (ns y + 1))).drew
      generalize (w4.setCell ⟨p, 6 + y, none⟩ (.int .i64 (ns y + 1))).drew = w6 at S6 C6 ⊢
      clear n5 z5 S5 C5
      have c6 := S6.c1
      have f6 := S6.cc k hkn
      have z6 := S6.zc k
      replace S6 := Lib.hid S6
      replace C6 := Lib.hid C6
      go_wp2
      go_end0
      refine ⟨rfl, ⟨q, gc, FR, _, _, _, rfl, S6.out.setC hkn y, ?_, color_mv hG.out hx hy hxy hA.out hC.out, good_mv hG.out hx hy hxy hA.out, h1, h2⟩, C6.out.set _ (Or.inr (Or.inl rfl)) _⟩
      have T2 := mt_in (i := (k : Int)) T1.out hy
      rw [eBy.out, if_neg hB.out, eny.out] at T2
      exact T2
end Wd
end Go.Proofs.Ytjobeomadkaeoaa
