/- Texts joined: EKeep. -/
import Derived.Test.YtdaojohdmidemaaGreatJ15
import Derived.Deep.RegionHeld3
import Derived.Deep.CutBlock
import Derived.Deep.DeepCutAuto
/- What the laws ask of a memory, whoever keeps it: HeapKeeps. -/
namespace Go.Proofs.YtdaojohdmidemaaGreat
open Go.RowKit Go.Maps
set_option linter.unusedVariables false
namespace Wd
theorem i64_and1 (n : Int) : bits .and .i64 n 1 = n % 2 := by
  have h127 : (BitVec.ofInt 64 1).toNat = 2 ^ 1 - 1 := by decide
  have key : (BitVec.ofInt 64 n &&& BitVec.ofInt 64 1).toNat = (n % ((2 ^ 64 : Nat) : Int)).toNat % 2 ^ 1 := by
    rw [BitVec.toNat_and, BitVec.toNat_ofInt, h127, Nat.and_two_pow_sub_one_eq_mod]
  show IntKind.i64.wrap ((BitVec.ofInt 64 n &&& BitVec.ofInt 64 1).toNat : Nat) = n % 2
  rw [key, IntKind.wrap_i64]
  omega
theorem i64_and3 (n : Int) : bits .and .i64 n 3 = n % 4 := by
  have h127 : (BitVec.ofInt 64 3).toNat = 2 ^ 2 - 1 := by decide
  have key : (BitVec.ofInt 64 n &&& BitVec.ofInt 64 3).toNat = (n % ((2 ^ 64 : Nat) : Int)).toNat % 2 ^ 2 := by
    rw [BitVec.toNat_and, BitVec.toNat_ofInt, h127, Nat.and_two_pow_sub_one_eq_mod]
  show IntKind.i64.wrap ((BitVec.ofInt 64 n &&& BitVec.ofInt 64 3).toNat : Nat) = n % 4
  rw [key, IntKind.wrap_i64]
  omega
set_option maxHeartbeats 64000000 in
set_option maxRecDepth 20000 in
theorem keeps_s {HA : HAt} (K : HeapK HA) (ad : Option Addr) (len cap0 : Nat) (w : World) (HN : Asks w ad len) (hlen : len * 32 ≤ 140737488351232) (t : Int) (t0 : -9223372036854775808 ≤ t) (t1 : t ≤ 9223372036854775807) :
    Calls Tryz.prog 5 #[.slice ad len cap0, .int .i64 t] w fun e w' => e = .returned (.bool true) ∧ Below w.heap.size w w' := by
  replace HN := Lib.hid HN
  have KN := Lib.hid (fun (wX : World) => K.new (w := wX) nKp 1 (fun s hs => by unfold nKp; repeat (first | omega | split)) (by decide) (by decide) (by omega) (by omega))
  have RN := Lib.hid (fun (wX : World) => rnewh_c nKp 1 wX (fun s hs => by unfold nKp; repeat (first | omega | split)) (by decide))
  have eN : cfgV nKp 1 = .agg #[.int .i64 30, .int .i64 30, .int .i64 10, .int .i64 4, .int .i64 2, .int .i64 1] := rfl
  rw [eN] at KN
  have eN2 : (Value.agg #[.int .i64 (nKp 0 : Nat), .int .i64 (nKp 1 : Nat), .int .i64 (nKp 2 : Nat), .int .i64 (nKp 3 : Nat), .int .i64 (nKp 4 : Nat), .int .i64 1]) = .agg #[.int .i64 30, .int .i64 30, .int .i64 10, .int .i64 4, .int .i64 2, .int .i64 1] := rfl
  rw [eN2] at RN
  clear eN eN2
  go_enter Tryz.func5, Tryz.ntmps5
  go_wp2_with fail
  refine (KN.out _).mono ?_
  rintro e w1 ⟨p, F, rfl, hm, hF, hb⟩
  have b1 := Lib.hid (((Below.refl w.heap.size w).alloc (Nat.le_refl _) (.cells #[.int .i64 30, .int .i64 30, .int .i64 10, .int .i64 4, .int .i64 2, .int .i64 1] 28)).trans (hb.mono (by simp)))
  have hcell : Hid (∀ wX, Below w1.heap.size w1 wX → ∀ j v, (#[Value.int .i64 30, .int .i64 30, .int .i64 10, .int .i64 4, .int .i64 2, .int .i64 1] : Array Value)[j]? = some v → wX.cell? ⟨w.heap.size, j, none⟩ = some v) := Lib.hid (fun wX hX j v hv => by
    have e1 : w1.heap[w.heap.size]? = some (.cells #[.int .i64 30, .int .i64 30, .int .i64 10, .int .i64 4, .int .i64 2, .int .i64 1] 28 (0, 0)) := (hb.block w.heap.size (by simp)).trans (heap_alloc_new _ _)
    have e2 := (hX.block w.heap.size (by have := hb.size; simp at this; omega)).trans e1
    simp [World.cell?, e2, hv])
  have hm2 : Hid (HA w1 p nKp (newH nKp) F ∧ ∀ k, F k → w.heap.size ≤ k) := Lib.hid ⟨hm, fun k hk => by have := hF k hk; simp at this; omega⟩
  clear hm hF hb KN
  have g0 := hcell.out w1 (Below.refl _ _) 0 _ rfl
  have g1 := hcell.out w1 (Below.refl _ _) 1 _ rfl
  have g2 := hcell.out w1 (Below.refl _ _) 2 _ rfl
  have g3 := hcell.out w1 (Below.refl _ _) 3 _ rfl
  have g4 := hcell.out w1 (Below.refl _ _) 4 _ rfl
  have g5 := hcell.out w1 (Below.refl _ _) 5 _ rfl
  go_wp2_with fail
  refine (RN.out _).mono ?_
  rintro e w3 ⟨b, D, rfl, hr, hD, hb3⟩
  have st0 : PP HA w w3 p b nKp (newH nKp) (newH nKp) F D w (fun k => (Value.slice none 0 0).ownBlock = some k) :=
    ⟨K.keep hm2.out.1 hb3.size (fun k hk => hb3.block k (K.lt hm2.out.1 k hk)), hr, fun k hk hDk => by have := hD k hDk; have := K.lt hm2.out.1 k hk; omega, b1.out.trans (hb3.mono b1.out.size), hm2.out.2, fun k hk => by have := hD k hk; have := b1.out.size; omega, fun k hk => by cases hk⟩
  have sL : Hid (KeL HA w w3 p b nKp (newH nKp) F D [] (fun _ => False) (.slice none 0 0) 0) := Lib.hid ⟨st0.apart (fun k hk => by cases hk), World.ownsRow_nil _ _ _ _, rfl, fun x hx => (by cases hx), tri_new _, kpt_new _, by decide⟩
  clear hr hD hb3 g0 g1 g2 g3 g4 g5 hcell hm2 RN b1 st0
  go_wp2_with fail
  go_loopw [8, 9] (fun v i' wr => ∃ i : Nat, i ≤ 4 ∧ i' = .int .i64 i ∧ ∃ H F D L S, Hid (KeL HA w wr p b nKp H F D L S v i)) (fun _ i' _ => 4 - (intOf i').toNat)
  case atStart => exact ⟨0, by omega, rfl, _, _, _, _, _, sL⟩
  case round =>
    obtain ⟨i, hi, rfl, H, F1, D1, L, S, h1⟩ := hrel
    clear sL
    by_cases hlt : i < 4
    · have hlt' : decide ((i : Int) < 4) = true := by simp; omega
      have hw : IntKind.i64.wrap ((i : Int) + 1) = (i : Int) + 1 := by rw [IntKind.wrap_i64]; omega
      obtain ⟨k, hk, k4, k1, kk, kt, kf⟩ := h1.out.alc K hlt
      have P1 := K.alloc 2 3 h1.out.pp.ha (by unfold i64; omega) (by unfold i64; omega)
      rw [hk] at P1
      replace P1 := Lib.hid P1
      have R1 : Hid (∀ (wX : World) (D' : Nat → Prop), RA9 wX b nKp H D' → Calls Tryz.prog 12 #[.pointer (some ⟨b, 0, none⟩), .int .i64 2, .int .i64 3] wX fun e w' => ∃ F', e = .returned (.int .i64 (k : Int)) ∧ RA9 w' b nKp (alcH H 2 3) F' ∧ Ch D' wX w' ∧ Newer D' F' wX.heap.size) := Lib.hid (fun wX D' h => by
        have := ralloch_c h 2 3 (by omega) (by omega)
        rw [hk] at this
        exact this)
      have e2 : IntKind.i64.wrap (2 * (k : Int)) = 2 * (k : Int) := by rw [IntKind.wrap_i64]; omega
      have e3 : IntKind.u32.wrap (2 * (k : Int)) = 2 * (k : Int) := by rw [IntKind.wrap_u32']; omega
      replace kk := Lib.hid kk
      replace kt := Lib.hid kt
      replace kf := Lib.hid kf
      clear hk
      go_wp2_with fail
      with_reducible refine P1.out.mono ?_
      rintro e y1 ⟨J1, rfl, hL⟩
      have s1 := Lib.hid (h1.out.pp.stepP K hL)
      have hrow := Lib.hid (rows_same (w1 := y1) h1.out.row (fun g hg => (s1.out.ex g hg).2.2.2))
      have hy1 : w.heap.size ≤ y1.heap.size := s1.out.bel.size
      clear hL P1
      go_wp2_with (first | (at_builtin; refine wpList_appw rfl (.tmp 34) (.tmp 39) rfl w.heap.size i u8 _ L [2 * (k : Int)] (by simp [Act.eval]) rfl (hrow.out.alloc _) (ReadsW.one ((World.cell?_alloc_new _ _ _ 0).trans rfl)) (by simp only [List.length_singleton]; omega) (by simp; omega) ?_; intro v1 wC hown hgrow hat; simp only [List.length_singleton] at hown; have hN := Lib.hid (h1.out.next K k4 k1 kk.out kt.out kf.out s1.out rfl hown hgrow hat); replace hown := Lib.hid hown; clear hgrow hat))
      refine (R1.out _ _ hN.out.1.ra).mono ?_
      rintro e y2 ⟨J2, rfl, l1, l2, l3⟩
      have s2 := hN.out.1.stepR K l1 l2 l3
      have h2 : Hid (KeL HA w y2 p b nKp (alcH H 2 3) J1 J2 (L ++ [2 * (k : Int)]) (fun j => S j ∨ j = k) v1 (i + 1)) := Lib.hid ⟨s2.apart (fun j hj => by have := s2.ex j hj; exact ⟨this.1, this.2.1, this.2.2.1⟩), rows_same hown.out (fun g hg => (s2.ex g hg).2.2.2), by have := h1.out.ll; simp; omega, hN.out.2, kt.out, kk.out, kf.out⟩
      clear hN l1 l2 l3 s2 s1 hrow hown R1
      go_wp2
      go_roundw
      case rel => exact ⟨i + 1, by omega, by go_num, _, _, _, _, _, h2⟩
      case measure => simp [intOf]; omega
    · have e : i = 4 := by omega
      subst e
      obtain ⟨g, cap, rfl, hv, hp⟩ := h1.out.fin
      replace hv := Lib.hid hv
      replace hp := Lib.hid hp
      clear h1
      go_wp2_with fail
      go_loopw [10] (fun i' wr => ∃ i : Nat, i ≤ len ∧ i ≤ 100 ∧ i' = .int .i64 i ∧ ∃ H F D L S, Hid (KeV HA w wr p b g cap nKp H H F D L) ∧ Hid (KeP nKp H L S)) (fun i' _ => 100 - (intOf i').toNat)
      case atStart => exact ⟨0, by omega, by omega, rfl, _, _, _, _, _, hv, hp⟩
      case round =>
        obtain ⟨i, hi, hi2, rfl, H, F2, D2, L, S, hv2, hp2⟩ := hrel
        clear hv hp
        by_cases hlt : i < len ∧ i < 100
        · obtain ⟨gA, off, x, y, z, v, rfl, hx, hy, hz, hv', cx, cy, cz, cv⟩ := HN.out wr hv2.out.pp.bel i hlt.1
          have d1 : decide ((i : Int) < (len : Int)) = true := by simp; omega
          have d2 : decide ((i : Int) < 100) = true := by simp; omega
          have hw : IntKind.i64.wrap ((i : Int) + 1) = (i : Int) + 1 := by rw [IntKind.wrap_i64]; omega
          have h0 := Lib.hid (KeW.begin K hv2.out (x := x) (y := y) (z := z) (v := v) 24)
          obtain ⟨B, hB⟩ : ∃ B, wr.heap.size = B := ⟨_, rfl⟩
          rw [hB] at h0
          generalize hwA : wr.alloc (.cells #[.int .i64 x, .int .i64 y, .int .i64 z, .int .i64 v] 24) = wA at *
          replace hwA := Lib.hid hwA
          replace hB := Lib.hid hB
          have W1 := Lib.hid (within_c y 0 3 hy.1 hy.2 (by omega) (by omega) (by omega))
          obtain ⟨r, hr⟩ : ∃ r : Nat, within y 0 3 = r := ⟨(within y 0 3).toNat, by have := within_bd y 0 3 (by omega); omega⟩
          have hr4 : r < 4 := by have := within_bd y 0 3 (by omega); omega
          have hr4' : (r : Int) < 4 := by omega
          have W2 := Lib.hid (within_c x 0 4 hx.1 hx.2 (by omega) (by omega) (by omega))
          have hq := within_bd x 0 4 (by omega)
          generalize within x 0 4 = q at *
          rw [hr] at W1
          clear hr
          obtain ⟨u, hu, hru⟩ := hp2.out.at' r hr4
          have RI := Lib.hid (rid_c u (by have := hru.1; omega) hru.2.1)
          rw [hru.2.2.1] at RI
          obtain ⟨k0, ek0, k04, k0b, hS0⟩ := hru.at'
          rw [ek0] at RI
          have cu := h0.out.root hu
          have bx := h0.out.box.1
          have by' := h0.out.box.2.1
          have hk0b : (k0 : Int) ≤ 2147483647 := by omega
          replace hu := Lib.hid hu
          clear ek0 hru hv2
          go_wp2_with fail
          rw [hwA.out, hB.out]
          clear hwA hB
          refine (W1.out _).mono ?_
          rintro e w2 ⟨rfl, hw2⟩
          subst w2
          go_wp2_with fail
          refine (RI.out _).mono ?_
          rintro e w2 ⟨rfl, hw2⟩
          subst w2
          clear W1 RI
          go_wp2_with fail
          refine (W2.out _).mono ?_
          rintro e w2 ⟨rfl, hw2⟩
          subst w2
          clear W2
          go_upto_block 4 with fail
          go_cut [] (fun wx => ∃ H F D L S, Hid (KeW HA w wx p b g cap B nKp H H F D L x y z v) ∧ Hid (KeP nKp H L S))
          case first =>
            clear bx by'
            have bz := h0.out.box.2.2.1
            have bv := h0.out.box.2.2.2
            have ev := i64_and3 v
            obtain ⟨m, hm⟩ : ∃ m : Nat, v % 4 = m := ⟨(v % 4).toNat, by omega⟩
            rw [hm] at ev
            have hm4 : m < 4 := by omega
            have hm4' : (m : Int) < 4 := by omega
            obtain ⟨u2, hu2, hru2⟩ := hp2.out.at' m hm4
            have cu2 := h0.out.root hu2
            have u20 : 0 ≤ u2 := by have := hru2.1; omega
            have u21 : u2 ≤ 4294967295 := hru2.2.1
            replace hru2 := Lib.hid hru2
            replace hu2 := Lib.hid hu2
            clear hm
            rcases (show q = 0 ∨ q = 1 ∨ q = 2 ∨ q = 3 ∨ q = 4 by omega) with rfl | rfl | rfl | rfl | rfl
            · as_aux_lemma =>
              have P1 := K.alloc 2 3 h0.out.pp.ha (by unfold i64; omega) (by unfold i64; omega)
              rcases hp2.out.alc (K.inv h0.out.pp.ha) with ⟨ea, hpa⟩ | ⟨k, ea, k4, k1, hpa⟩
              · as_aux_lemma =>
                rw [ea] at P1
                replace P1 := Lib.hid P1
                replace hpa := Lib.hid hpa
                go_wp2_with fail
                with_reducible refine (P1.out).mono ?_
                rintro e y1 ⟨J1, rfl, hL⟩
                have s1 := Lib.hid (h0.out.stepP K hL)
                clear hL
                go_wp2_with fail
                with_reducible refine (ralloch_c s1.out.pp.ra 2 3 (by omega) (by omega)).mono ?_
                rintro e y2 ⟨J2, rfl, l1, l2, l3⟩
                have s2 := Lib.hid (s1.out.stepR K l1 l2 l3)
                clear l1 l2 l3
                clear s1 h0
                go_wp2
                go_meet
                exact ⟨_, _, _, _, _, s2, hpa⟩
              · as_aux_lemma =>
                rw [ea] at P1
                replace P1 := Lib.hid P1
                have kpos : decide ((k : Int) > 0) = true := by simp; omega
                have e2 : IntKind.i64.wrap (2 * (k : Int)) = 2 * (k : Int) := by rw [IntKind.wrap_i64]; omega
                have e3 : IntKind.u32.wrap (2 * (k : Int)) = 2 * (k : Int) := by rw [IntKind.wrap_u32']; omega
                have hzj := i64_and1 z
                have hz0 : 0 ≤ z % 2 ∧ z % 2 ≤ 1 := by omega
                generalize z % 2 = zj at *
                go_wp2_with fail
                with_reducible refine (P1.out).mono ?_
                rintro e y1 ⟨J1, rfl, hL⟩
                have s1 := Lib.hid (h0.out.stepP K hL)
                clear hL
                go_wp2_with fail
                with_reducible refine (ralloch_c s1.out.pp.ra 2 3 (by omega) (by omega)).mono ?_
                rintro e y2 ⟨J2, rfl, l1, l2, l3⟩
                have s2 := Lib.hid (s1.out.stepR K l1 l2 l3)
                clear l1 l2 l3
                have i2 := K.inv s2.out.pp.ha
                have hpb := hpa.put i2 (k : Nat) zj u2 (hpa.ok u2 (List.mem_of_getElem? hu2.out))
                have hpc := Lib.hid (hpb.set r (rootOk.mk' k4 k1 (S := fun j => S j ∨ j = k) (Or.inr rfl)))
                clear s1 h0 bz bv cu cu2 i2 hpa hpb
                have bz := s2.out.box.2.2.1
                have bv := s2.out.box.2.2.2
                have cu2 := s2.out.root hu2.out
                go_wp2
                refine wp_region_still_tail 11 (by kernel_rfl) (by kernel_rfl) ?_
                simp only [List.take_succ_cons, List.take_zero, List.drop_succ_cons, List.drop_zero]
                iterate 11 still_step
                refine wpStill_nil ?_
                change wpList _ _ _ _ _ y2.drew
                have s3 := Lib.hid (s2.out.drew K)
                clear s2 bz bv cu2
                go_wp2_with fail
                with_reducible refine (K.put (k : Nat) zj u2 s3.out.pp.ha (by unfold i64; omega) (by unfold i64; omega) u20 u21).mono ?_
                rintro e y3 ⟨J3, rfl, hL⟩
                have s4 := Lib.hid (s3.out.stepP K hL)
                clear hL
                clear s3
                have bz := s4.out.box.2.2.1
                have bv := s4.out.box.2.2.2
                have cu2 := s4.out.root hu2.out
                go_wp2
                refine wp_region_still_tail 11 (by kernel_rfl) (by kernel_rfl) ?_
                simp only [List.take_succ_cons, List.take_zero, List.drop_succ_cons, List.drop_zero]
                iterate 11 still_step
                refine wpStill_nil ?_
                change wpList _ _ _ _ _ y3.drew
                have s5 := Lib.hid (s4.out.drew K)
                clear s4 bz bv cu2
                go_wp2_with fail
                with_reducible refine (rputh_c s5.out.pp.ra (k : Nat) zj u2 u20 u21).mono ?_
                rintro e y4 ⟨J4, rfl, l1, l2, l3⟩
                have s6 := Lib.hid (s5.out.stepR K l1 l2 l3)
                clear l1 l2 l3
                have s7 := Lib.hid (s6.out.set K r (2 * (k : Int)))
                have cu := s6.out.root hu.out
                have zu := s6.out.frz r
                clear s5 s6
                go_wp2
                go_meet
                exact ⟨_, _, _, _, _, s7, hpc⟩
            · as_aux_lemma =>
              have W3 := Lib.hid (within_c z 0 2 hz.1 hz.2 (by omega) (by omega) (by omega))
              have hj := within_bd z 0 2 (by omega)
              generalize within z 0 2 = zj at *
              have hpc := Lib.hid (hp2.out.put (K.inv h0.out.pp.ha) (k0 : Nat) zj u2 hru2.out)
              clear cu
              go_wp2
              refine wp_region_still_tail 11 (by kernel_rfl) (by kernel_rfl) ?_
              simp only [List.take_succ_cons, List.take_zero, List.drop_succ_cons, List.drop_zero]
              iterate 4 still_step
              still_call (W3.out _)
              iterate 6 still_step
              refine wpStill_nil ?_
              change wpList _ _ _ _ _ wA.drew
              have s3 := Lib.hid (h0.out.drew K)
              clear h0 bz bv cu2
              go_wp2_with fail
              with_reducible refine (K.put (k0 : Nat) zj u2 s3.out.pp.ha (by unfold i64; omega) (by unfold i64; omega) u20 u21).mono ?_
              rintro e y3 ⟨J3, rfl, hL⟩
              have s4 := Lib.hid (s3.out.stepP K hL)
              clear hL
              clear s3
              have bz := s4.out.box.2.2.1
              have bv := s4.out.box.2.2.2
              have cu2 := s4.out.root hu2.out
              go_wp2
              refine wp_region_still_tail 11 (by kernel_rfl) (by kernel_rfl) ?_
              simp only [List.take_succ_cons, List.take_zero, List.drop_succ_cons, List.drop_zero]
              iterate 4 still_step
              still_call (W3.out _)
              iterate 6 still_step
              refine wpStill_nil ?_
              change wpList _ _ _ _ _ y3.drew
              have s5 := Lib.hid (s4.out.drew K)
              clear s4 bz bv cu2
              go_wp2_with fail
              with_reducible refine (rputh_c s5.out.pp.ra (k0 : Nat) zj u2 u20 u21).mono ?_
              rintro e y4 ⟨J4, rfl, l1, l2, l3⟩
              have s6 := Lib.hid (s5.out.stepR K l1 l2 l3)
              clear l1 l2 l3
              go_wp2
              go_meet
              exact ⟨_, _, _, _, _, s6, hpc⟩
            · as_aux_lemma =>
              have W3 := Lib.hid (within_c z 0 2 hz.1 hz.2 (by omega) (by omega) (by omega))
              obtain ⟨j, hj⟩ : ∃ j : Nat, within z 0 2 = j := ⟨(within z 0 2).toNat, by have := within_bd z 0 2 (by omega); omega⟩
              have hj3 : j < 3 := by have := within_bd z 0 2 (by omega); omega
              rw [hj] at W3
              obtain ⟨b1, b2, b3, b4⟩ := (hp2.out.kpt.ask (K.inv h0.out.pp.ha) hS0).2.2 j hj3
              have P1 := K.get (k0 : Nat) (j : Nat) h0.out.pp.ha (by unfold i64; omega) (by unfold i64; omega)
              rw [b1] at P1
              have ex := wand1 (getV H (k0 : Nat) (j : Nat)) b3 b4
              generalize getV H (k0 : Nat) (j : Nat) = xv at *
              replace P1 := Lib.hid P1
              replace b2 := Lib.hid b2
              clear bv cu2 b1 hj
              go_wp2_with fail
              refine (W3.out _).mono ?_
              rintro e w2 ⟨rfl, hw2⟩
              subst w2
              go_wp2_with fail
              with_reducible refine (P1.out).mono ?_
              rintro e y1 ⟨J1, rfl, hL⟩
              have s1 := Lib.hid (h0.out.stepP K hL)
              clear hL
              clear h0 bz cu
              by_cases h7 : 7 < xv
              · as_aux_lemma =>
                have d7 : decide (xv > 7) = true := by simpa using h7
                by_cases hev : xv % 2 = 0
                · rw [hev] at ex
                  have s7 := Lib.hid (s1.out.set K r xv)
                  have hpc := Lib.hid (hp2.out.set r (rootOk.field b2.out h7 hev b4))
                  have cu := s1.out.root hu.out
                  have zu := s1.out.frz r
                  clear s1
                  go_wp2
                  go_meet
                  exact ⟨_, _, _, _, _, s7, hpc⟩
                · have hev1 : xv % 2 = 1 := by omega
                  rw [hev1] at ex
                  go_wp2
                  go_meet
                  exact ⟨_, _, _, _, _, s1, hp2⟩
              · as_aux_lemma =>
                have d7 : decide (xv > 7) = false := by simpa using h7
                go_wp2
                go_meet
                exact ⟨_, _, _, _, _, s1, hp2⟩
            · as_aux_lemma =>
              have RI2 := Lib.hid (rid_c u2 u20 u21)
              rw [hru2.out.2.2.1] at RI2
              obtain ⟨k2, ek2, k24, k2b, hS2⟩ := hru2.out.at'
              rw [ek2] at RI2
              have hk2b : (k2 : Int) ≤ 2147483647 := by omega
              have hpc := Lib.hid (hp2.out.swap (K.inv h0.out.pp.ha) hS0 hS2)
              clear ek2 bz cu
              go_wp2_with fail
              refine (RI2.out _).mono ?_
              rintro e w2 ⟨rfl, hw2⟩
              subst w2
              go_wp2_with fail
              with_reducible refine (K.swap (k0 : Nat) (k2 : Nat) h0.out.pp.ha (by unfold i64; omega) (by unfold i64; omega)).mono ?_
              rintro e y3 ⟨J3, rfl, hL⟩
              have s4 := Lib.hid (h0.out.stepP K hL)
              clear hL
              clear h0 bv cu2
              go_wp2_with fail
              with_reducible refine (rswaph_c s4.out.pp.ra (k0 : Nat) (k2 : Nat)).mono ?_
              rintro e y4 ⟨J4, rfl, l1, l2, l3⟩
              have s6 := Lib.hid (s4.out.stepR K l1 l2 l3)
              clear l1 l2 l3
              go_wp2
              go_meet
              exact ⟨_, _, _, _, _, s6, hpc⟩
            · as_aux_lemma =>
              go_wp2
              go_meet
              exact ⟨_, _, _, _, _, h0, hp2⟩
          case rest =>
            clear h0 hp2 cu bx by' hq hu hS0
            obtain ⟨H, F3, D3, L, S, h0, hp⟩ := hcut
            have e15 := i64_and15 v
            obtain ⟨m, hm⟩ : ∃ m : Nat, v % 16 = m := ⟨(v % 16).toNat, by omega⟩
            rw [hm] at e15
            have hm16 : m < 16 := by omega
            have hm15 : IntKind.i64.wrap (4 + (m : Int)) = 4 + (m : Int) := by rw [IntKind.wrap_i64]; omega
            clear hm
            have i0 := K.inv h0.out.pp.ha
            have i1 := i0.hold L
            have ht' := i64_and1 t
            have hz' := i64_and1 z
            go_wp2_with fail
            with_reducible refine (K.hold h0.out.pp.ha h0.out.row hp.out.bds (by rw [hp.out.l4]; omega) h0.out.offF).mono ?_
            rintro e y1 ⟨J1, rfl, hL⟩
            have s1 := Lib.hid (h0.out.stepP K hL)
            clear hL
            go_wp2_with fail
            with_reducible refine (rholdh_c s1.out.pp.ra s1.out.row hp.out.bds s1.out.offD).mono ?_
            rintro e y2 ⟨J2, rfl, l1, l2, l3⟩
            have s2 := Lib.hid (s1.out.stepR K l1 l2 l3)
            clear l1 l2 l3
            clear h0 s1
            have bv := s2.out.box.2.2.2
            go_wp2_with fail
            with_reducible refine (K.scan (4 + (m : Int)) s2.out.pp.ha (by unfold i64; omega)).mono ?_
            rintro e y3 ⟨J3, rfl, hL⟩
            have s3 := Lib.hid (s2.out.stepP K hL)
            clear hL
            clear s2 bv
            have bv := s3.out.box.2.2.2
            go_wp2_with fail
            with_reducible refine (rscanh_c s3.out.pp.ra (4 + (m : Int))).mono ?_
            rintro e y4 ⟨J4, rfl, l1, l2, l3⟩
            have s4 := Lib.hid (s3.out.stepR K l1 l2 l3)
            clear l1 l2 l3
            clear s3 bv
            have bz := s4.out.box.2.2.1
            clear i1
            obtain ⟨fl, hfl⟩ : ∃ fl : Bool, fl = (decide (t % 2 = 0) || decide (z % 2 = 0)) := ⟨_, rfl⟩
            go_upto_region 43 with fail
            go_cut [208] (fun s wx => s = .bool fl ∧ wx = y4)
            case first => as_aux_lemma =>
              by_cases hte : t % 2 = 0
              · rw [hte] at ht'
                have : fl = true := by rw [hfl]; simp [hte]
                subst this
                clear hfl
                go_wp2
                go_meet
                exact ⟨rfl, rfl⟩
              · have hte1 : t % 2 = 1 := by omega
                rw [hte1] at ht'
                by_cases hze : z % 2 = 0
                · rw [hze] at hz'
                  have : fl = true := by rw [hfl]; simp [hze]
                  subst this
                  clear hfl
                  go_wp2
                  go_meet
                  exact ⟨rfl, rfl⟩
                · have hze1 : z % 2 = 1 := by omega
                  rw [hze1] at hz'
                  have : fl = false := by rw [hfl]; simp [hte, hze]
                  subst this
                  clear hfl
                  go_wp2
                  go_meet
                  exact ⟨rfl, rfl⟩
            case rest =>
              obtain ⟨rfl, rfl⟩ := hcut
              clear bz ht' hz' hfl
              go_upto_if 208 with fail
              go_cut [] (fun wx => ∃ H F D S, Hid (KeW HA w wx p b g cap B nKp H H F D L x y z v) ∧ Hid (KeP nKp H L S))
              case first => as_aux_lemma =>
                cases fl with
                | false =>
                  have hp7 := Lib.hid ((hp.out.hold i0).scan (i0.hold L) (4 + (m : Int)))
                  go_wp2
                  go_meet
                  exact ⟨_, _, _, _, s4, hp7⟩
                | true =>
                  obtain ⟨S9, hp9⟩ := hp.out.turn i0 (4 + (m : Int))
                  have hp7 := Lib.hid (hp9.hold (K.inv s4.out.pp.ha).flp)
                  replace hp9 := Lib.hid hp9
                  go_wp2_with fail
                  with_reducible refine (K.flip s4.out.pp.ha).mono ?_
                  rintro e y5 ⟨J5, rfl, hL⟩
                  have s5 := Lib.hid (s4.out.stepP K hL)
                  clear hL
                  go_wp2_with fail
                  with_reducible refine (rfliph_c s5.out.pp.ra).mono ?_
                  rintro e y6 ⟨J6, rfl, l1, l2, l3⟩
                  have s6 := Lib.hid (s5.out.stepR K l1 l2 l3)
                  clear l1 l2 l3
                  clear s4 s5
                  go_wp2_with fail
                  with_reducible refine (K.hold s6.out.pp.ha s6.out.row hp9.out.bds (by rw [hp9.out.l4]; omega) s6.out.offF).mono ?_
                  rintro e y7 ⟨J7, rfl, hL⟩
                  have s7 := Lib.hid (s6.out.stepP K hL)
                  clear hL
                  go_wp2_with fail
                  with_reducible refine (rholdh_c s7.out.pp.ra s7.out.row hp9.out.bds s7.out.offD).mono ?_
                  rintro e y8 ⟨J8, rfl, l1, l2, l3⟩
                  have s8 := Lib.hid (s7.out.stepR K l1 l2 l3)
                  clear l1 l2 l3
                  clear s6 s7 hp9
                  go_wp2
                  go_meet
                  exact ⟨_, _, _, _, s8, hp7⟩
              case rest => as_aux_lemma =>
                clear s4 hp i0
                obtain ⟨H, F4, D4, S, s8, hp7⟩ := hcut
                go_wp2_with fail
                go_loopw [221] (fun i' wr => ∃ j : Nat, j ≤ 4 ∧ i' = .int .i64 j ∧ ∃ F', Hid (KeW HA w wr p b g cap B nKp H H F' D4 L x y z v)) (fun i' _ => 4 - (intOf i').toNat)
                case atStart => exact ⟨0, by omega, rfl, _, s8⟩
                case round =>
                  obtain ⟨j, hj, rfl, F9, h9⟩ := hrel
                  clear s8
                  by_cases hj4 : j < 4
                  · have dj : decide ((j : Int) < 4) = true := by simp; omega
                    have hwj : IntKind.i64.wrap ((j : Int) + 1) = (j : Int) + 1 := by rw [IntKind.wrap_i64]; omega
                    have hj4' : (j : Int) < 4 := by omega
                    obtain ⟨u9, hu9, hru9⟩ := hp7.out.at' j hj4
                    have PL := Lib.hid (lives_c K hp7.out.kpt 6 (by omega) u9 h9.out.pp.ha (by have := hru9.1; omega) hru9.2.1 hru9.2.2.2)
                    have cu9 := h9.out.root hu9
                    clear hu9 hru9
                    go_wp2_with fail
                    refine PL.out.mono ?_
                    rintro e y9 ⟨J9, rfl, hL⟩
                    have s9 := Lib.hid (h9.out.stepP K hL)
                    clear hL PL h9 cu9
                    go_wp2
                    go_roundw
                    case rel => exact ⟨j + 1, by omega, by go_num, _, s9⟩
                    case measure => simp [intOf]; omega
                  · have ej : j = 4 := by omega
                    subst ej
                    go_wp2
                    go_roundw
                    case rel => (repeat apply Exists.intro); exact ⟨⟨i + 1, by omega, by omega, by go_num, _, _, _, _, _, Lib.hid h9.out.drop, hp7⟩, rfl⟩
                    case measure => simp [intOf]; omega
        · have F0 := Lib.hid (same_c K hv2.out.pp)
          rcases (show i = len ∨ (i < len ∧ i = 100) by omega) with rfl | ⟨hil, rfl⟩
          · have d1 : decide ((i : Int) < (i : Int)) = false := by simp
            go_wp2_with fail
            refine F0.out.mono ?_
            rintro e y9 ⟨G9, rfl, s9⟩
            replace s9 := Lib.hid s9
            go_wp2_with fail
            refine (known_c K _).mono ?_
            rintro e y30 ⟨rfl, hb⟩
            have hb9 := Lib.hid (s9.out.bel.trans (hb.mono s9.out.bel.size))
            go_wp2
            go_ret
            exact ⟨rfl, hb9.out⟩
          · have d1 : decide (((100 : Nat) : Int) < (len : Int)) = true := by simp; omega
            have d2 : decide (((100 : Nat) : Int) < 100) = false := by simp
            go_wp2_with fail
            refine F0.out.mono ?_
            rintro e y9 ⟨G9, rfl, s9⟩
            replace s9 := Lib.hid s9
            go_wp2_with fail
            refine (known_c K _).mono ?_
            rintro e y30 ⟨rfl, hb⟩
            have hb9 := Lib.hid (s9.out.bel.trans (hb.mono s9.out.bel.size))
            go_wp2
            go_ret
            exact ⟨rfl, hb9.out⟩

end Wd
end Go.Proofs.YtdaojohdmidemaaGreat
