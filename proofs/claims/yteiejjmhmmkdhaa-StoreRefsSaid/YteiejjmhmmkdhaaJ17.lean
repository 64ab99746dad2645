/- Texts joined: WT. -/
import Derived.Test.YteiejjmhmmkdhaaJ14
import Derived.Test.YteiejjmhmmkdhaaJ15
import Derived.Test.YteiejjmhmmkdhaaJ16
/- The walk: fields that lead to objects lead to their identities; numbers are numbers. -/
namespace Go.Proofs.Yteiejjmhmmkdhaa
open Go.RowKit
set_option linter.unusedVariables false
set_option maxRecDepth 20000
namespace Wd
/-- a tape's program is loaded into an Ideal that is empty -/
theorem is_load {w1 w : World} {p : Nat} {u : Value} {U : UnitA} (h : IS w1 w p []) (hu : UnK w1 u U) (ht : TapeU U) :
    Calls Try.prog 7 #[.iface 33 (pV p), u] w fun e w' => ∃ iv, e = .returned (.tuple #[iv, .bool true]) ∧ IS w1 w' p (U.objects.map (fulA (idsN U.objects.length))) ∧ w'.ownsRow 0 3 1 iv U.objects.length (ints (idsN U.objects.length)) ∧ ∀ k, iv.ownBlock = some k → w1.heap.size ≤ k := by
  obtain ⟨F, h1, h2, h3⟩ := h
  obtain ⟨ho, hv⟩ := tape_obs ht
  refine (loadI_c (idealK p) hu h2 ht.right ho h1 h3 (by simp) (ai_ok ho)).mono ?_
  rintro e w' ⟨iv, F', rfl, g1, g2, g3, g4, g5⟩
  rw [ldS_ideal ho hv] at g1
  rw [ldI_ideal ho] at g2
  exact ⟨iv, rfl, ⟨F', g1, h2.trans (g3.toB h2.size h3), fun k hk => (g4 k hk).elim (h3 k) (fun e => Nat.le_trans h2.size e)⟩, g2, fun k hk => Nat.le_trans h2.size (g5 k hk).2⟩
theorem UnK.ob8 {w : World} {U : UnitA} {a b c d e : Value} (h : UnK w (.agg #[a, b, c, d, e]) U) : ObV w d U.objects := by
  obtain ⟨na, nc, ca, cc, ma, mc, oa, oc, e, hS⟩ := h.ex
  cases e
  exact hS.o
set_option maxHeartbeats 64000000 in
theorem refs_s {w : World} {ad : Option Addr} {n cap : Nat} (HA : NumA w ad n) (hn : n ≤ 4611686018427387904) :
    Calls Try.prog 3 #[.slice ad n cap] w fun e w' => e = .returned (.bool true) ∧ Below w.heap.size w w' := by
  have PU := Lib.hid (unit_t (tape_tp (cap := cap) HA hn))
  clear HA hn
  go_enter Try.func3, Try.ntmps3
  go_upto_region 2 with (go_at_call 5; refine (PU.out).mono ?_; rintro e w1 ⟨v, U, g0, c0, M, rfl, hU, hc⟩; have hb1 := Lib.hid (unit_bel hc); (obtain ⟨na, nc, ca, cc, oa, oc, rfl⟩ := hU.ex); clear hc PU)
  have ht := Lib.hid hU.ta
  have hu := Lib.hid (hU.k.up ((Below.refl w1.heap.size w1).alloc (Nat.le_refl _) (.cells #[.slice na U.names.length nc, .slice ca U.classes.length cc, .slice (some ⟨g0, 0, none⟩) U.methods.length c0, .slice oa U.objects.length oc, .int .i64 U.main] 28)))
  have hB0 := Lib.hid ((Below.refl w1.heap.size w1).alloc (Nat.le_refl _) (.cells #[.slice na U.names.length nc, .slice ca U.classes.length cc, .slice (some ⟨g0, 0, none⟩) U.methods.length c0, .slice oa U.objects.length oc, .int .i64 U.main] 28))
  have hbw := Lib.hid (hb1.out.trans (hB0.out.mono hb1.out.size))
  have hX := Lib.hid (heap_alloc_new w1 (.cells #[.slice na U.names.length nc, .slice ca U.classes.length cc, .slice (some ⟨g0, 0, none⟩) U.methods.length c0, .slice oa U.objects.length oc, .int .i64 U.main] 28))
  have hov := Lib.hid (hu.out.ob8)
  clear hb1 hB0 hU
  generalize w1.alloc (.cells #[.slice na U.names.length nc, .slice ca U.classes.length cc, .slice (some ⟨g0, 0, none⟩) U.methods.length c0, .slice oa U.objects.length oc, .int .i64 U.main] 28) = w2 at *
  generalize w1.heap.size = q at *
  have hx := Lib.hid (fun (W : World) (b : Below w2.heap.size w2 W) => (⟨cell_up b (by rw [Lib.cell_of_heap hX.out]; rfl), cell_up b (by rw [Lib.cell_of_heap hX.out]; rfl), cell_up b (by rw [Lib.cell_of_heap hX.out]; rfl), cell_up b (by rw [Lib.cell_of_heap hX.out]; rfl), cell_up b (by rw [Lib.cell_of_heap hX.out]; rfl)⟩ : W.cell? ⟨q, 0, none⟩ = some (.slice na U.names.length nc) ∧ W.cell? ⟨q, 1, none⟩ = some (.slice ca U.classes.length cc) ∧ W.cell? ⟨q, 2, none⟩ = some (.slice (some ⟨g0, 0, none⟩) U.methods.length c0) ∧ W.cell? ⟨q, 3, none⟩ = some (.slice oa U.objects.length oc) ∧ W.cell? ⟨q, 4, none⟩ = some (.int .i64 U.main)))
  clear hX
  go_upto_region 5 with (go_at_call 6; refine (is_new (Below.refl w2.heap.size w2)).mono ?_; rintro e w3 ⟨p, rfl, h3, _⟩; replace h3 := Lib.hid h3)
  obtain ⟨x0, x1, x2, x3, x4⟩ := hx.out _ h3.out.bel
  go_upto_region 6 with (go_at_call 7; refine (is_load h3.out hu.out ht.out).mono ?_; rintro e w5 ⟨iv, rfl, h5, ho5, _⟩; replace h5 := Lib.hid h5; replace ho5 := Lib.hid ho5; clear x0 x1 x2 x3 x4)
  clear h3
  obtain ⟨_, _, _, x3, _⟩ := hx.out _ h5.out.bel
  obtain ⟨ia, ic, e, _⟩ := own_form ho5.out
  subst e
  have PL := Lib.hid (is_len h5.out)
  rw [List.length_map] at PL
  obtain ⟨ho, hv⟩ := tape_obs ht.out
  have h1000 := ho.len
  have dn : ((U.objects.length : Int) != (U.objects.length : Int)) = false := by simp
  generalize hO : U.objects = O at *
  have hok2 := Lib.hid ho.ok
  clear ht hu ho hO
  go_upto_region 9 with (go_at_call 8; refine (PL.out).mono ?_; rintro e w6 ⟨rfl, hw6⟩; subst w6)
  clear x3 PL dn hx
  generalize hOl : O.length = l4 at *
  go_loopw [51] (fun x wr => ∃ k : Nat, k ≤ l4 ∧ x = .int .i64 k ∧ Hid (Below w5.heap.size w5 wr)) (fun x _ => l4 - (intOf x).toNat)
  case atStart => exact ⟨0, by omega, rfl, Lib.hid (Below.refl _ _)⟩
  case round =>
    obtain ⟨k, hk, rfl, hB⟩ := hrel
    by_cases hlt : k < l4
    · as_aux_lemma =>
      have d1 : decide ((k : Int) < (l4 : Int)) = true := by simp; omega
      have p1 : (k : Int) < (l4 : Int) := by omega
      obtain ⟨x, hx⟩ : ∃ x, O[k]? = some x := ⟨O[k]'(by omega), by simp⟩
      have hxH := Lib.hid hx
      obtain ⟨i1, g, off, fv, rfl, d0, d1', pf⟩ := hov.out.at hx
      obtain ⟨fa, fc, rfl, _, _⟩ := pf.form
      have hb5 := Lib.hid h5.out.bel
      have hbr := Lib.hid (hb5.out.trans (hB.out.mono hb5.out.size))
      replace d0 := cell_up hbr.out d0
      replace d1' := cell_up hbr.out d1'
      have hB3 := Lib.hid (hB.out.alloc hB.out.size (.cells #[.int .i64 x.cls, .slice fa x.flds.length fc] 40))
      have z1 : (wr.alloc (.cells #[.int .i64 x.cls, .slice fa x.flds.length fc] 40)).cell? ⟨wr.heap.size, 1, none⟩ = some (.slice fa x.flds.length fc) := World.cell?_alloc_new _ _ _ 1
      have h62 : x.flds.length ≤ 62 := (okA_cases x.cls (x.flds.length : Int)).elim (fun h => by have := h.2.2.2.2.1; omega) (fun h => by have := hok2.out x (List.mem_of_getElem? hx); rcases h with h | h <;> rw [h.1] at this <;> cases this)
      have hvx := Lib.hid (hv x (List.mem_of_getElem? hx))
      have hpf := Lib.hid (fun (W : World) (b : Below w5.heap.size w5 W) => pf.up (hb5.out.trans (b.mono hb5.out.size)))
      clear hx pf i1 hv
      generalize hfl : x.flds.length = fl at *
      go_upto_region 11 with fail
      generalize wr.alloc (.cells #[.int .i64 x.cls, .slice fa fl fc] 40) = W3 at *
      generalize wr.heap.size = q3 at *
      clear d0 d1' hB hbr
      go_wp2
      clear z1
      go_loopw [59] (fun y wr => ∃ j : Nat, j ≤ fl ∧ y = .int .i64 j ∧ Hid (Below w5.heap.size w5 wr)) (fun y _ => fl - (intOf y).toNat)
      case atStart => exact ⟨0, by omega, rfl, hB3⟩
      case round =>
        clear hB3
        obtain ⟨j, hj, rfl, hB⟩ := hrel
        by_cases hlj : j < fl
        · as_aux_lemma =>
          have d1 : decide ((j : Int) < (fl : Int)) = true := by simp; omega
          have p2 : (j : Int) < (fl : Int) := by omega
          obtain ⟨v, hv⟩ : ∃ v, x.flds[j]? = some v := ⟨x.flds[j]'(by omega), by simp⟩
          obtain ⟨v1, v2⟩ := v
          have hok := hvx.out (v1, v2) (List.mem_of_getElem? hv)
          obtain ⟨hgv, hin⟩ := ful_get (ids := idsN l4) hxH.out hv
          obtain ⟨i1, i2, gf, foff, rfl, y0, y1⟩ := (hpf.out wr hB.out).at hv
          have hB4 := Lib.hid (hB.out.alloc hB.out.size (.cells #[.int .i64 v1, .int .i64 v2] 42))
          have z0 : (wr.alloc (.cells #[.int .i64 v1, .int .i64 v2] 42)).cell? ⟨wr.heap.size, 0, none⟩ = some (.int .i64 v1) := World.cell?_alloc_new _ _ _ 0
          have z1 : (wr.alloc (.cells #[.int .i64 v1, .int .i64 v2] 42)).cell? ⟨wr.heap.size, 1, none⟩ = some (.int .i64 v2) := World.cell?_alloc_new _ _ _ 1
          have PG := Lib.hid (is_get (h5.out.up hB4.out) (4 + (k : Int)) (j : Int) (by rw [List.length_map]; omega) ⟨by omega, by omega⟩ ⟨by omega, by omega⟩)
          rw [hgv, hin] at PG
          obtain ⟨ir, rfl, hid⟩ : ∃ ir, ia = some ⟨ir, 0, none⟩ ∧ Hid (∀ (W : World) (b : Below w5.heap.size w5 W) (m : Nat), m < l4 → W.cell? ⟨ir, m, none⟩ = some (.int .i64 (4 + (m : Int)))) := by
            have hw := ho5.out
            rcases hw.2 with ⟨_, e2⟩ | ⟨ir, cap', cur, e, _⟩
            · omega
            · cases e
              exact ⟨ir, rfl, Lib.hid (fun W b m hm => cell_up b (own_cell hw (by simp only [ints, List.getElem?_map, idsN_at hm]; rfl)))⟩
          have cid := hid.out _ hB4.out k hlt
          have hwb := valW_bd (v1, v2) (idsN l4)
          have PN := Lib.hid (Ww.refNum_c (valW (v1, v2) (idsN l4)) hwb.1 hwb.2)
          have PD := Lib.hid (Ww.refID_c (valW (v1, v2) (idsN l4)) hwb.1 hwb.2)
          obtain ⟨wr1, wr2, wr3, wr4⟩ := word_read (n := l4) (by omega) hok
          clear hgv hin hv hxH hwb
          simp only at wr1 wr2 wr3 wr4
          rw [wr1] at PN
          clear wr1
          generalize Ww.nv (valW (v1, v2) (idsN l4)) = nvv at *
          generalize Ww.isD (valW (v1, v2) (idsN l4)) = isd at *
          generalize Ww.dv (valW (v1, v2) (idsN l4)) = dvv at *
          generalize valW (v1, v2) (idsN l4) = wv at *
          go_upto_region 14 with fail
          generalize wr.alloc (.cells #[.int .i64 v1, .int .i64 v2] 42) = W4 at *
          generalize wr.heap.size = q4 at *
          clear y0 y1
          go_upto_region 17 with (first | (go_at_call 9; refine (PG.out).mono ?_; rintro e w7 ⟨rfl, _, hb7⟩; have z0' := cell_up hb7 z0; have z1' := cell_up hb7 z1; have hB7 := Lib.hid (hB4.out.trans (hb7.mono hB4.out.size)); clear z0 z1 hb7 PG) | (go_at_call 10; refine (PN.out _).mono ?_; rintro e w8 ⟨rfl, hw8⟩; subst w8) | (go_at_call 11; refine (PD.out _).mono ?_; rintro e w9 ⟨rfl, hw9⟩; subst w9))
          have hdb : ∀ z : Int, z ≤ 3 → decide (3 < z) = false := fun z hz => by simp; omega
          have hsm : (v1 < 3) ∨ (v1 = 3) ∨ (v1 = 4 ∧ 0 ≤ v2 ∧ v2 < (l4 : Int)) := by
            rcases hok with e | e | e | ⟨e, _, _⟩ | ⟨e, e1, e2⟩
            · cases e; exact Or.inl (by decide)
            · cases e; exact Or.inl (by decide)
            · cases e; exact Or.inl (by decide)
            · exact Or.inr (Or.inl e)
            · exact Or.inr (Or.inr ⟨e, e1, e2⟩)
          rcases hsm with e | e | ⟨e, e1, e2⟩
          · as_aux_lemma =>
            obtain ⟨rfl, h3⟩ := wr4 e
            have hd3 := hdb _ h3
            have k3 : (v1 == 3) = false := by simp; omega
            have k4 : (v1 == 4) = false := by simp; omega
            have k5 : decide (v1 < 3) = true := by simp; omega
            have k6 : decide (v1 = 3) = false := by simp; omega
            rw [k6]
            clear wr2 wr3 wr4 hdb hok e h3
            apply wp_region_lit
            refine ge8 (fun A0 hA0 => ?_)
            have zz0 : A0.tmps.size = 136 := by rw [hA0]; rfl
            have f0_10 : A0.eval (.tmp 10) = .pointer (some ⟨q4, 0, none⟩) := by rw [hA0]; rfl
            have f0_12 : A0.eval (.tmp 12) = .bool true := by rw [hA0]; rfl
            have f0_14 : A0.eval (.tmp 14) = .bool false := by rw [hA0]; rfl
            have f0_15 : A0.eval (.tmp 15) = .int .i64 dvv := by rw [hA0]; rfl
            have f0_16 : A0.eval (.tmp 16) = .bool true := by rw [hA0]; rfl
            refine lk (v := .bool true) (op_move f0_12) (wn rfl) (fun A1 hA1 => ?_)
            have zz1 := pz (d := 84) hA1 zz0
            have f1_10 := po (d := 84) hA1 (by decide) f0_10
            have f1_14 := po (d := 84) hA1 (by decide) f0_14
            have f1_15 := po (d := 84) hA1 (by decide) f0_15
            have f1_16 := po (d := 84) hA1 (by decide) f0_16
            have f1_84 := ps (d := 84) hA1 zz0 (by decide)
            clear zz0 f0_10 f0_12 f0_14 f0_15 f0_16
            refine lk (v := .bool false) (op_not (b := true) f1_84 rfl) (wn rfl) (fun A2 hA2 => ?_)
            have zz2 := pz (d := 85) hA2 zz1
            have f2_10 := po (d := 85) hA2 (by decide) f1_10
            have f2_14 := po (d := 85) hA2 (by decide) f1_14
            have f2_15 := po (d := 85) hA2 (by decide) f1_15
            have f2_16 := po (d := 85) hA2 (by decide) f1_16
            have f2_85 := ps (d := 85) hA2 zz1 (by decide)
            clear zz1 f1_10 f1_14 f1_15 f1_16 f1_84
            refine lk (v := .bool false) (op_move f2_85) (wn rfl) (fun A3 hA3 => ?_)
            have zz3 := pz (d := 86) hA3 zz2
            have f3_10 := po (d := 86) hA3 (by decide) f2_10
            have f3_14 := po (d := 86) hA3 (by decide) f2_14
            have f3_15 := po (d := 86) hA3 (by decide) f2_15
            have f3_16 := po (d := 86) hA3 (by decide) f2_16
            have f3_86 := ps (d := 86) hA3 zz2 (by decide)
            clear zz2 f2_10 f2_14 f2_15 f2_16 f2_85
            refine lk (v := .pointer (some ⟨q4, 0, none⟩)) (op_fa0 (q := q4) f3_10) (wy (i := 2) (d := 86) (n := 136) rfl rfl zz3 (by decide) f3_86) (fun A4 hA4 => ?_)
            have zz4 := pz (d := 87) hA4 zz3
            have f4_10 := po (d := 87) hA4 (by decide) f3_10
            have f4_14 := po (d := 87) hA4 (by decide) f3_14
            have f4_15 := po (d := 87) hA4 (by decide) f3_15
            have f4_16 := po (d := 87) hA4 (by decide) f3_16
            have f4_86 := po (d := 87) hA4 (by decide) f3_86
            have f4_87 := ps (d := 87) hA4 zz3 (by decide)
            clear zz3 f3_10 f3_14 f3_15 f3_16 f3_86
            refine lk (v := .int .i64 v1) (op_load (p := ⟨q4, 0, none⟩) f4_87 z0') (wy (i := 2) (d := 86) (n := 136) rfl rfl zz4 (by decide) f4_86) (fun A5 hA5 => ?_)
            have zz5 := pz (d := 88) hA5 zz4
            have f5_10 := po (d := 88) hA5 (by decide) f4_10
            have f5_14 := po (d := 88) hA5 (by decide) f4_14
            have f5_15 := po (d := 88) hA5 (by decide) f4_15
            have f5_16 := po (d := 88) hA5 (by decide) f4_16
            have f5_86 := po (d := 88) hA5 (by decide) f4_86
            have f5_88 := ps (d := 88) hA5 zz4 (by decide)
            clear zz4 f4_10 f4_14 f4_15 f4_16 f4_86 f4_87
            refine lk (v := .bool false) (op_eqi (m := v1) (n := 3) rfl f5_88 k3) (wy (i := 2) (d := 86) (n := 136) rfl rfl zz5 (by decide) f5_86) (fun A6 hA6 => ?_)
            have zz6 := pz (d := 89) hA6 zz5
            have f6_10 := po (d := 89) hA6 (by decide) f5_10
            have f6_14 := po (d := 89) hA6 (by decide) f5_14
            have f6_15 := po (d := 89) hA6 (by decide) f5_15
            have f6_16 := po (d := 89) hA6 (by decide) f5_16
            have f6_86 := po (d := 89) hA6 (by decide) f5_86
            have f6_89 := ps (d := 89) hA6 zz5 (by decide)
            clear zz5 f5_10 f5_14 f5_15 f5_16 f5_86 f5_88
            refine lk (v := .bool false) (op_move f6_14) (wy (i := 2) (d := 86) (n := 136) rfl rfl zz6 (by decide) f6_86) (fun A7 hA7 => ?_)
            have zz7 := pz (d := 90) hA7 zz6
            have f7_10 := po (d := 90) hA7 (by decide) f6_10
            have f7_14 := po (d := 90) hA7 (by decide) f6_14
            have f7_15 := po (d := 90) hA7 (by decide) f6_15
            have f7_16 := po (d := 90) hA7 (by decide) f6_16
            have f7_86 := po (d := 90) hA7 (by decide) f6_86
            have f7_89 := po (d := 90) hA7 (by decide) f6_89
            have f7_90 := ps (d := 90) hA7 zz6 (by decide)
            clear zz6 f6_10 f6_14 f6_15 f6_16 f6_86 f6_89
            refine lk (v := .bool false) (op_neb (b := false) (c := false) f7_89 f7_90 (by decide)) (wy (i := 2) (d := 86) (n := 136) rfl rfl zz7 (by decide) f7_86) (fun A8 hA8 => ?_)
            have zz8 := pz (d := 91) hA8 zz7
            have f8_10 := po (d := 91) hA8 (by decide) f7_10
            have f8_14 := po (d := 91) hA8 (by decide) f7_14
            have f8_15 := po (d := 91) hA8 (by decide) f7_15
            have f8_16 := po (d := 91) hA8 (by decide) f7_16
            have f8_86 := po (d := 91) hA8 (by decide) f7_86
            have f8_91 := ps (d := 91) hA8 zz7 (by decide)
            clear zz7 f7_10 f7_14 f7_15 f7_16 f7_86 f7_89 f7_90
            refine lk (v := .bool false) (op_pickF f8_86 f8_91) (wn rfl) (fun A9 hA9 => ?_)
            have zz9 := pz (d := 92) hA9 zz8
            have f9_10 := po (d := 92) hA9 (by decide) f8_10
            have f9_14 := po (d := 92) hA9 (by decide) f8_14
            have f9_15 := po (d := 92) hA9 (by decide) f8_15
            have f9_16 := po (d := 92) hA9 (by decide) f8_16
            have f9_92 := ps (d := 92) hA9 zz8 (by decide)
            clear zz8 f8_10 f8_14 f8_15 f8_16 f8_86 f8_91
            refine lk (v := .bool false) (op_move f9_92) (wn rfl) (fun A10 hA10 => ?_)
            have zz10 := pz (d := 93) hA10 zz9
            have f10_10 := po (d := 93) hA10 (by decide) f9_10
            have f10_14 := po (d := 93) hA10 (by decide) f9_14
            have f10_15 := po (d := 93) hA10 (by decide) f9_15
            have f10_16 := po (d := 93) hA10 (by decide) f9_16
            have f10_93 := ps (d := 93) hA10 zz9 (by decide)
            clear zz9 f9_10 f9_14 f9_15 f9_16 f9_92
            refine lk (v := .bool false) (op_move f10_14) (wy (i := 9) (d := 93) (n := 136) rfl rfl zz10 (by decide) f10_93) (fun A11 hA11 => ?_)
            have zz11 := pz (d := 94) hA11 zz10
            have f11_10 := po (d := 94) hA11 (by decide) f10_10
            have f11_15 := po (d := 94) hA11 (by decide) f10_15
            have f11_16 := po (d := 94) hA11 (by decide) f10_16
            have f11_93 := po (d := 94) hA11 (by decide) f10_93
            have f11_94 := ps (d := 94) hA11 zz10 (by decide)
            clear zz10 f10_10 f10_14 f10_15 f10_16 f10_93
            refine lk (v := .bool false) (op_move f11_94) (wy (i := 9) (d := 93) (n := 136) rfl rfl zz11 (by decide) f11_93) (fun A12 hA12 => ?_)
            have zz12 := pz (d := 95) hA12 zz11
            have f12_10 := po (d := 95) hA12 (by decide) f11_10
            have f12_15 := po (d := 95) hA12 (by decide) f11_15
            have f12_16 := po (d := 95) hA12 (by decide) f11_16
            have f12_93 := po (d := 95) hA12 (by decide) f11_93
            have f12_95 := ps (d := 95) hA12 zz11 (by decide)
            clear zz11 f11_10 f11_15 f11_16 f11_93 f11_94
            refine lu (wx (i := 11) (d := 95) (n := 136) rfl rfl zz12 (by decide) f12_95 (by decide)) (fun A13 hA13 => ?_)
            have zz13 := pz (d := 96) hA13 zz12
            have f13_10 := po (d := 96) hA13 (by decide) f12_10
            have f13_15 := po (d := 96) hA13 (by decide) f12_15
            have f13_16 := po (d := 96) hA13 (by decide) f12_16
            have f13_93 := po (d := 96) hA13 (by decide) f12_93
            have f13_95 := po (d := 96) hA13 (by decide) f12_95
            clear zz12 f12_10 f12_15 f12_16 f12_93 f12_95
            refine lu (wx (i := 11) (d := 95) (n := 136) rfl rfl zz13 (by decide) f13_95 (by decide)) (fun A14 hA14 => ?_)
            have zz14 := pz (d := 97) hA14 zz13
            have f14_10 := po (d := 97) hA14 (by decide) f13_10
            have f14_15 := po (d := 97) hA14 (by decide) f13_15
            have f14_16 := po (d := 97) hA14 (by decide) f13_16
            have f14_93 := po (d := 97) hA14 (by decide) f13_93
            have f14_95 := po (d := 97) hA14 (by decide) f13_95
            clear zz13 f13_10 f13_15 f13_16 f13_93 f13_95
            refine lu (wx (i := 11) (d := 95) (n := 136) rfl rfl zz14 (by decide) f14_95 (by decide)) (fun A15 hA15 => ?_)
            have zz15 := pz (d := 98) hA15 zz14
            have f15_10 := po (d := 98) hA15 (by decide) f14_10
            have f15_15 := po (d := 98) hA15 (by decide) f14_15
            have f15_16 := po (d := 98) hA15 (by decide) f14_16
            have f15_93 := po (d := 98) hA15 (by decide) f14_93
            have f15_95 := po (d := 98) hA15 (by decide) f14_95
            clear zz14 f14_10 f14_15 f14_16 f14_93 f14_95
            refine lu (wx (i := 11) (d := 95) (n := 136) rfl rfl zz15 (by decide) f15_95 (by decide)) (fun A16 hA16 => ?_)
            have zz16 := pz (d := 99) hA16 zz15
            have f16_10 := po (d := 99) hA16 (by decide) f15_10
            have f16_15 := po (d := 99) hA16 (by decide) f15_15
            have f16_16 := po (d := 99) hA16 (by decide) f15_16
            have f16_93 := po (d := 99) hA16 (by decide) f15_93
            have f16_95 := po (d := 99) hA16 (by decide) f15_95
            clear zz15 f15_10 f15_15 f15_16 f15_93 f15_95
            refine lk (v := .bool false) (op_pickF f16_95 rfl) (wy (i := 9) (d := 93) (n := 136) rfl rfl zz16 (by decide) f16_93) (fun A17 hA17 => ?_)
            have zz17 := pz (d := 100) hA17 zz16
            have f17_10 := po (d := 100) hA17 (by decide) f16_10
            have f17_15 := po (d := 100) hA17 (by decide) f16_15
            have f17_16 := po (d := 100) hA17 (by decide) f16_16
            have f17_93 := po (d := 100) hA17 (by decide) f16_93
            have f17_100 := ps (d := 100) hA17 zz16 (by decide)
            clear zz16 f16_10 f16_15 f16_16 f16_93 f16_95
            refine lk (v := .bool false) (op_pickF f17_93 f17_100) (wn rfl) (fun A18 hA18 => ?_)
            have zz18 := pz (d := 101) hA18 zz17
            have f18_10 := po (d := 101) hA18 (by decide) f17_10
            have f18_15 := po (d := 101) hA18 (by decide) f17_15
            have f18_16 := po (d := 101) hA18 (by decide) f17_16
            have f18_101 := ps (d := 101) hA18 zz17 (by decide)
            clear zz17 f17_10 f17_15 f17_16 f17_93 f17_100
            refine lk (v := .bool false) (op_move f18_101) (wn rfl) (fun A19 hA19 => ?_)
            have zz19 := pz (d := 102) hA19 zz18
            have f19_10 := po (d := 102) hA19 (by decide) f18_10
            have f19_15 := po (d := 102) hA19 (by decide) f18_15
            have f19_16 := po (d := 102) hA19 (by decide) f18_16
            have f19_102 := ps (d := 102) hA19 zz18 (by decide)
            clear zz18 f18_10 f18_15 f18_16 f18_101
            refine lk (v := .pointer (some ⟨q4, 0, none⟩)) (op_fa0 (q := q4) f19_10) (wy (i := 18) (d := 102) (n := 136) rfl rfl zz19 (by decide) f19_102) (fun A20 hA20 => ?_)
            have zz20 := pz (d := 103) hA20 zz19
            have f20_10 := po (d := 103) hA20 (by decide) f19_10
            have f20_15 := po (d := 103) hA20 (by decide) f19_15
            have f20_16 := po (d := 103) hA20 (by decide) f19_16
            have f20_102 := po (d := 103) hA20 (by decide) f19_102
            have f20_103 := ps (d := 103) hA20 zz19 (by decide)
            clear zz19 f19_10 f19_15 f19_16 f19_102
            refine lk (v := .int .i64 v1) (op_load (p := ⟨q4, 0, none⟩) f20_103 z0') (wy (i := 18) (d := 102) (n := 136) rfl rfl zz20 (by decide) f20_102) (fun A21 hA21 => ?_)
            have zz21 := pz (d := 104) hA21 zz20
            have f21_10 := po (d := 104) hA21 (by decide) f20_10
            have f21_15 := po (d := 104) hA21 (by decide) f20_15
            have f21_16 := po (d := 104) hA21 (by decide) f20_16
            have f21_102 := po (d := 104) hA21 (by decide) f20_102
            have f21_104 := ps (d := 104) hA21 zz20 (by decide)
            clear zz20 f20_10 f20_15 f20_16 f20_102 f20_103
            refine lk (v := .bool false) (op_eqi (m := v1) (n := 4) rfl f21_104 k4) (wy (i := 18) (d := 102) (n := 136) rfl rfl zz21 (by decide) f21_102) (fun A22 hA22 => ?_)
            have zz22 := pz (d := 105) hA22 zz21
            have f22_10 := po (d := 105) hA22 (by decide) f21_10
            have f22_15 := po (d := 105) hA22 (by decide) f21_15
            have f22_16 := po (d := 105) hA22 (by decide) f21_16
            have f22_102 := po (d := 105) hA22 (by decide) f21_102
            have f22_105 := ps (d := 105) hA22 zz21 (by decide)
            clear zz21 f21_10 f21_15 f21_16 f21_102 f21_104
            refine lk (v := .bool false) (op_move f22_105) (wy (i := 18) (d := 102) (n := 136) rfl rfl zz22 (by decide) f22_102) (fun A23 hA23 => ?_)
            have zz23 := pz (d := 106) hA23 zz22
            have f23_10 := po (d := 106) hA23 (by decide) f22_10
            have f23_15 := po (d := 106) hA23 (by decide) f22_15
            have f23_16 := po (d := 106) hA23 (by decide) f22_16
            have f23_102 := po (d := 106) hA23 (by decide) f22_102
            have f23_106 := ps (d := 106) hA23 zz22 (by decide)
            clear zz22 f22_10 f22_15 f22_16 f22_102 f22_105
            refine lu (wx (i := 22) (d := 106) (n := 136) rfl rfl zz23 (by decide) f23_106 (by decide)) (fun A24 hA24 => ?_)
            have zz24 := pz (d := 107) hA24 zz23
            have f24_10 := po (d := 107) hA24 (by decide) f23_10
            have f24_15 := po (d := 107) hA24 (by decide) f23_15
            have f24_16 := po (d := 107) hA24 (by decide) f23_16
            have f24_102 := po (d := 107) hA24 (by decide) f23_102
            have f24_106 := po (d := 107) hA24 (by decide) f23_106
            clear zz23 f23_10 f23_15 f23_16 f23_102 f23_106
            refine lu (wx (i := 22) (d := 106) (n := 136) rfl rfl zz24 (by decide) f24_106 (by decide)) (fun A25 hA25 => ?_)
            have zz25 := pz (d := 108) hA25 zz24
            have f25_10 := po (d := 108) hA25 (by decide) f24_10
            have f25_15 := po (d := 108) hA25 (by decide) f24_15
            have f25_16 := po (d := 108) hA25 (by decide) f24_16
            have f25_102 := po (d := 108) hA25 (by decide) f24_102
            have f25_106 := po (d := 108) hA25 (by decide) f24_106
            clear zz24 f24_10 f24_15 f24_16 f24_102 f24_106
            refine lu (wx (i := 22) (d := 106) (n := 136) rfl rfl zz25 (by decide) f25_106 (by decide)) (fun A26 hA26 => ?_)
            have zz26 := pz (d := 109) hA26 zz25
            have f26_10 := po (d := 109) hA26 (by decide) f25_10
            have f26_15 := po (d := 109) hA26 (by decide) f25_15
            have f26_16 := po (d := 109) hA26 (by decide) f25_16
            have f26_102 := po (d := 109) hA26 (by decide) f25_102
            have f26_106 := po (d := 109) hA26 (by decide) f25_106
            have f26_109 := ps (d := 109) hA26 zz25 (by decide)
            clear zz25 f25_10 f25_15 f25_16 f25_102 f25_106
            refine lu (wz (i := 25) (d := 109) (n := 136) rfl rfl zz26 (by decide) f26_109) (fun A27 hA27 => ?_)
            have zz27 := pz (d := 110) hA27 zz26
            have f27_10 := po (d := 110) hA27 (by decide) f26_10
            have f27_15 := po (d := 110) hA27 (by decide) f26_15
            have f27_16 := po (d := 110) hA27 (by decide) f26_16
            have f27_102 := po (d := 110) hA27 (by decide) f26_102
            have f27_106 := po (d := 110) hA27 (by decide) f26_106
            have f27_109 := po (d := 110) hA27 (by decide) f26_109
            clear zz26 f26_10 f26_15 f26_16 f26_102 f26_106 f26_109
            refine lu (wz (i := 25) (d := 109) (n := 136) rfl rfl zz27 (by decide) f27_109) (fun A28 hA28 => ?_)
            have zz28 := pz (d := 111) hA28 zz27
            have f28_10 := po (d := 111) hA28 (by decide) f27_10
            have f28_15 := po (d := 111) hA28 (by decide) f27_15
            have f28_16 := po (d := 111) hA28 (by decide) f27_16
            have f28_102 := po (d := 111) hA28 (by decide) f27_102
            have f28_106 := po (d := 111) hA28 (by decide) f27_106
            have f28_109 := po (d := 111) hA28 (by decide) f27_109
            clear zz27 f27_10 f27_15 f27_16 f27_102 f27_106 f27_109
            refine lu (wz (i := 25) (d := 109) (n := 136) rfl rfl zz28 (by decide) f28_109) (fun A29 hA29 => ?_)
            have zz29 := pz (d := 112) hA29 zz28
            have f29_10 := po (d := 112) hA29 (by decide) f28_10
            have f29_15 := po (d := 112) hA29 (by decide) f28_15
            have f29_16 := po (d := 112) hA29 (by decide) f28_16
            have f29_102 := po (d := 112) hA29 (by decide) f28_102
            have f29_106 := po (d := 112) hA29 (by decide) f28_106
            have f29_109 := po (d := 112) hA29 (by decide) f28_109
            clear zz28 f28_10 f28_15 f28_16 f28_102 f28_106 f28_109
            refine lu (wz (i := 25) (d := 109) (n := 136) rfl rfl zz29 (by decide) f29_109) (fun A30 hA30 => ?_)
            have zz30 := pz (d := 113) hA30 zz29
            have f30_10 := po (d := 113) hA30 (by decide) f29_10
            have f30_15 := po (d := 113) hA30 (by decide) f29_15
            have f30_16 := po (d := 113) hA30 (by decide) f29_16
            have f30_102 := po (d := 113) hA30 (by decide) f29_102
            have f30_106 := po (d := 113) hA30 (by decide) f29_106
            have f30_109 := po (d := 113) hA30 (by decide) f29_109
            clear zz29 f29_10 f29_15 f29_16 f29_102 f29_106 f29_109
            refine lu (wz (i := 25) (d := 109) (n := 136) rfl rfl zz30 (by decide) f30_109) (fun A31 hA31 => ?_)
            have zz31 := pz (d := 114) hA31 zz30
            have f31_10 := po (d := 114) hA31 (by decide) f30_10
            have f31_15 := po (d := 114) hA31 (by decide) f30_15
            have f31_16 := po (d := 114) hA31 (by decide) f30_16
            have f31_102 := po (d := 114) hA31 (by decide) f30_102
            have f31_106 := po (d := 114) hA31 (by decide) f30_106
            have f31_109 := po (d := 114) hA31 (by decide) f30_109
            clear zz30 f30_10 f30_15 f30_16 f30_102 f30_106 f30_109
            refine lu (wz (i := 25) (d := 109) (n := 136) rfl rfl zz31 (by decide) f31_109) (fun A32 hA32 => ?_)
            have zz32 := pz (d := 115) hA32 zz31
            have f32_10 := po (d := 115) hA32 (by decide) f31_10
            have f32_15 := po (d := 115) hA32 (by decide) f31_15
            have f32_16 := po (d := 115) hA32 (by decide) f31_16
            have f32_102 := po (d := 115) hA32 (by decide) f31_102
            have f32_106 := po (d := 115) hA32 (by decide) f31_106
            have f32_109 := po (d := 115) hA32 (by decide) f31_109
            clear zz31 f31_10 f31_15 f31_16 f31_102 f31_106 f31_109
            refine lu (wz (i := 25) (d := 109) (n := 136) rfl rfl zz32 (by decide) f32_109) (fun A33 hA33 => ?_)
            have zz33 := pz (d := 116) hA33 zz32
            have f33_10 := po (d := 116) hA33 (by decide) f32_10
            have f33_15 := po (d := 116) hA33 (by decide) f32_15
            have f33_16 := po (d := 116) hA33 (by decide) f32_16
            have f33_102 := po (d := 116) hA33 (by decide) f32_102
            have f33_106 := po (d := 116) hA33 (by decide) f32_106
            clear zz32 f32_10 f32_15 f32_16 f32_102 f32_106 f32_109
            refine lu (wx (i := 22) (d := 106) (n := 136) rfl rfl zz33 (by decide) f33_106 (by decide)) (fun A34 hA34 => ?_)
            have zz34 := pz (d := 117) hA34 zz33
            have f34_10 := po (d := 117) hA34 (by decide) f33_10
            have f34_15 := po (d := 117) hA34 (by decide) f33_15
            have f34_16 := po (d := 117) hA34 (by decide) f33_16
            have f34_102 := po (d := 117) hA34 (by decide) f33_102
            have f34_106 := po (d := 117) hA34 (by decide) f33_106
            clear zz33 f33_10 f33_15 f33_16 f33_102 f33_106
            refine lk (v := .bool false) (op_pickF f34_106 rfl) (wy (i := 18) (d := 102) (n := 136) rfl rfl zz34 (by decide) f34_102) (fun A35 hA35 => ?_)
            have zz35 := pz (d := 118) hA35 zz34
            have f35_10 := po (d := 118) hA35 (by decide) f34_10
            have f35_15 := po (d := 118) hA35 (by decide) f34_15
            have f35_16 := po (d := 118) hA35 (by decide) f34_16
            have f35_102 := po (d := 118) hA35 (by decide) f34_102
            have f35_118 := ps (d := 118) hA35 zz34 (by decide)
            clear zz34 f34_10 f34_15 f34_16 f34_102 f34_106
            refine lk (v := .bool false) (op_pickF f35_102 f35_118) (wn rfl) (fun A36 hA36 => ?_)
            have zz36 := pz (d := 119) hA36 zz35
            have f36_10 := po (d := 119) hA36 (by decide) f35_10
            have f36_15 := po (d := 119) hA36 (by decide) f35_15
            have f36_16 := po (d := 119) hA36 (by decide) f35_16
            have f36_119 := ps (d := 119) hA36 zz35 (by decide)
            clear zz35 f35_10 f35_15 f35_16 f35_102 f35_118
            refine lk (v := .bool false) (op_move f36_119) (wn rfl) (fun A37 hA37 => ?_)
            have zz37 := pz (d := 120) hA37 zz36
            have f37_10 := po (d := 120) hA37 (by decide) f36_10
            have f37_15 := po (d := 120) hA37 (by decide) f36_15
            have f37_16 := po (d := 120) hA37 (by decide) f36_16
            have f37_120 := ps (d := 120) hA37 zz36 (by decide)
            clear zz36 f36_10 f36_15 f36_16 f36_119
            refine lk (v := .pointer (some ⟨q4, 0, none⟩)) (op_fa0 (q := q4) f37_10) (wy (i := 36) (d := 120) (n := 136) rfl rfl zz37 (by decide) f37_120) (fun A38 hA38 => ?_)
            have zz38 := pz (d := 121) hA38 zz37
            have f38_15 := po (d := 121) hA38 (by decide) f37_15
            have f38_16 := po (d := 121) hA38 (by decide) f37_16
            have f38_120 := po (d := 121) hA38 (by decide) f37_120
            have f38_121 := ps (d := 121) hA38 zz37 (by decide)
            clear zz37 f37_10 f37_15 f37_16 f37_120
            refine lk (v := .int .i64 v1) (op_load (p := ⟨q4, 0, none⟩) f38_121 z0') (wy (i := 36) (d := 120) (n := 136) rfl rfl zz38 (by decide) f38_120) (fun A39 hA39 => ?_)
            have zz39 := pz (d := 122) hA39 zz38
            have f39_15 := po (d := 122) hA39 (by decide) f38_15
            have f39_16 := po (d := 122) hA39 (by decide) f38_16
            have f39_120 := po (d := 122) hA39 (by decide) f38_120
            have f39_122 := ps (d := 122) hA39 zz38 (by decide)
            clear zz38 f38_15 f38_16 f38_120 f38_121
            refine lk (v := .bool true) (op_lti (m := v1) (n := 3) rfl f39_122 k5) (wy (i := 36) (d := 120) (n := 136) rfl rfl zz39 (by decide) f39_120) (fun A40 hA40 => ?_)
            have zz40 := pz (d := 123) hA40 zz39
            have f40_15 := po (d := 123) hA40 (by decide) f39_15
            have f40_16 := po (d := 123) hA40 (by decide) f39_16
            have f40_120 := po (d := 123) hA40 (by decide) f39_120
            have f40_123 := ps (d := 123) hA40 zz39 (by decide)
            clear zz39 f39_15 f39_16 f39_120 f39_122
            refine lk (v := .bool true) (op_move f40_123) (wy (i := 36) (d := 120) (n := 136) rfl rfl zz40 (by decide) f40_120) (fun A41 hA41 => ?_)
            have zz41 := pz (d := 124) hA41 zz40
            have f41_15 := po (d := 124) hA41 (by decide) f40_15
            have f41_16 := po (d := 124) hA41 (by decide) f40_16
            have f41_120 := po (d := 124) hA41 (by decide) f40_120
            have f41_124 := ps (d := 124) hA41 zz40 (by decide)
            clear zz40 f40_15 f40_16 f40_120 f40_123
            refine lk (v := .bool true) (op_move f41_16) (wy (i := 40) (d := 124) (n := 136) rfl rfl zz41 (by decide) f41_124) (fun A42 hA42 => ?_)
            have zz42 := pz (d := 125) hA42 zz41
            have f42_15 := po (d := 125) hA42 (by decide) f41_15
            have f42_120 := po (d := 125) hA42 (by decide) f41_120
            have f42_124 := po (d := 125) hA42 (by decide) f41_124
            have f42_125 := ps (d := 125) hA42 zz41 (by decide)
            clear zz41 f41_15 f41_16 f41_120 f41_124
            refine lk (v := .bool false) (op_not (b := true) f42_125 rfl) (wy (i := 40) (d := 124) (n := 136) rfl rfl zz42 (by decide) f42_124) (fun A43 hA43 => ?_)
            have zz43 := pz (d := 126) hA43 zz42
            have f43_15 := po (d := 126) hA43 (by decide) f42_15
            have f43_120 := po (d := 126) hA43 (by decide) f42_120
            have f43_124 := po (d := 126) hA43 (by decide) f42_124
            have f43_126 := ps (d := 126) hA43 zz42 (by decide)
            clear zz42 f42_15 f42_120 f42_124 f42_125
            refine lk (v := .bool false) (op_move f43_126) (wy (i := 40) (d := 124) (n := 136) rfl rfl zz43 (by decide) f43_124) (fun A44 hA44 => ?_)
            have zz44 := pz (d := 127) hA44 zz43
            have f44_15 := po (d := 127) hA44 (by decide) f43_15
            have f44_120 := po (d := 127) hA44 (by decide) f43_120
            have f44_124 := po (d := 127) hA44 (by decide) f43_124
            have f44_127 := ps (d := 127) hA44 zz43 (by decide)
            clear zz43 f43_15 f43_120 f43_124 f43_126
            refine lk (v := .int .i64 dvv) (op_move f44_15) (wy (i := 43) (d := 127) (n := 136) rfl rfl zz44 (by decide) f44_127) (fun A45 hA45 => ?_)
            have zz45 := pz (d := 128) hA45 zz44
            have f45_120 := po (d := 128) hA45 (by decide) f44_120
            have f45_124 := po (d := 128) hA45 (by decide) f44_124
            have f45_127 := po (d := 128) hA45 (by decide) f44_127
            have f45_128 := ps (d := 128) hA45 zz44 (by decide)
            clear zz44 f44_15 f44_120 f44_124 f44_127
            refine lk (v := .bool false) (op_gti (m := dvv) (n := 3) rfl f45_128 hd3) (wy (i := 43) (d := 127) (n := 136) rfl rfl zz45 (by decide) f45_127) (fun A46 hA46 => ?_)
            have zz46 := pz (d := 129) hA46 zz45
            have f46_120 := po (d := 129) hA46 (by decide) f45_120
            have f46_124 := po (d := 129) hA46 (by decide) f45_124
            have f46_127 := po (d := 129) hA46 (by decide) f45_127
            have f46_129 := ps (d := 129) hA46 zz45 (by decide)
            clear zz45 f45_120 f45_124 f45_127 f45_128
            refine lk (v := .bool false) (op_pickF f46_127 f46_129) (wy (i := 40) (d := 124) (n := 136) rfl rfl zz46 (by decide) f46_124) (fun A47 hA47 => ?_)
            have zz47 := pz (d := 130) hA47 zz46
            have f47_120 := po (d := 130) hA47 (by decide) f46_120
            have f47_124 := po (d := 130) hA47 (by decide) f46_124
            have f47_130 := ps (d := 130) hA47 zz46 (by decide)
            clear zz46 f46_120 f46_124 f46_127 f46_129
            refine lk (v := .bool false) (op_pickT f47_124 f47_130) (wy (i := 36) (d := 120) (n := 136) rfl rfl zz47 (by decide) f47_120) (fun A48 hA48 => ?_)
            have zz48 := pz (d := 131) hA48 zz47
            have f48_120 := po (d := 131) hA48 (by decide) f47_120
            have f48_131 := ps (d := 131) hA48 zz47 (by decide)
            clear zz47 f47_120 f47_124 f47_130
            refine lk (v := .bool false) (op_pickF f48_120 f48_131) (wn rfl) (fun A49 hA49 => ?_)
            have zz49 := pz (d := 132) hA49 zz48
            have f49_132 := ps (d := 132) hA49 zz48 (by decide)
            clear zz48 f48_120 f48_131
            refine le0 ?_
            clear zz49 f49_132
            subst hA49 hA48 hA47 hA46 hA45 hA44 hA43 hA42 hA41 hA40 hA39 hA38 hA37 hA36 hA35 hA34 hA33 hA32 hA31 hA30 hA29 hA28 hA27 hA26 hA25 hA24 hA23 hA22 hA21 hA20 hA19 hA18 hA17 hA16 hA15 hA14 hA13 hA12 hA11 hA10 hA9 hA8 hA7 hA6 hA5 hA4 hA3 hA2 hA1
            subst hA0
            simp only [Act.put, nA]
            go_wp2
            go_roundw
            case rel => exact ⟨j + 1, by omega, by go_num, hB7⟩
            case measure => simp [intOf]; omega
          · as_aux_lemma =>
            subst e
            obtain rfl := wr2 rfl
            have dx : (nvv != nvv) = false := by simp
            clear wr2 wr3 wr4 hdb hok
            rw [show decide ((3 : Int) = 3) = true from rfl]
            apply wp_region_lit
            refine ge8 (fun A0 hA0 => ?_)
            have zz0 : A0.tmps.size = 136 := by rw [hA0]; rfl
            have f0_10 : A0.eval (.tmp 10) = .pointer (some ⟨q4, 0, none⟩) := by rw [hA0]; rfl
            have f0_12 : A0.eval (.tmp 12) = .bool true := by rw [hA0]; rfl
            have f0_13 : A0.eval (.tmp 13) = .int .i64 nvv := by rw [hA0]; rfl
            have f0_14 : A0.eval (.tmp 14) = .bool true := by rw [hA0]; rfl
            refine lk (v := .bool true) (op_move f0_12) (wn rfl) (fun A1 hA1 => ?_)
            have zz1 := pz (d := 84) hA1 zz0
            have f1_10 := po (d := 84) hA1 (by decide) f0_10
            have f1_13 := po (d := 84) hA1 (by decide) f0_13
            have f1_14 := po (d := 84) hA1 (by decide) f0_14
            have f1_84 := ps (d := 84) hA1 zz0 (by decide)
            clear zz0 f0_10 f0_12 f0_13 f0_14
            refine lk (v := .bool false) (op_not (b := true) f1_84 rfl) (wn rfl) (fun A2 hA2 => ?_)
            have zz2 := pz (d := 85) hA2 zz1
            have f2_10 := po (d := 85) hA2 (by decide) f1_10
            have f2_13 := po (d := 85) hA2 (by decide) f1_13
            have f2_14 := po (d := 85) hA2 (by decide) f1_14
            have f2_85 := ps (d := 85) hA2 zz1 (by decide)
            clear zz1 f1_10 f1_13 f1_14 f1_84
            refine lk (v := .bool false) (op_move f2_85) (wn rfl) (fun A3 hA3 => ?_)
            have zz3 := pz (d := 86) hA3 zz2
            have f3_10 := po (d := 86) hA3 (by decide) f2_10
            have f3_13 := po (d := 86) hA3 (by decide) f2_13
            have f3_14 := po (d := 86) hA3 (by decide) f2_14
            have f3_86 := ps (d := 86) hA3 zz2 (by decide)
            clear zz2 f2_10 f2_13 f2_14 f2_85
            refine lk (v := .pointer (some ⟨q4, 0, none⟩)) (op_fa0 (q := q4) f3_10) (wy (i := 2) (d := 86) (n := 136) rfl rfl zz3 (by decide) f3_86) (fun A4 hA4 => ?_)
            have zz4 := pz (d := 87) hA4 zz3
            have f4_10 := po (d := 87) hA4 (by decide) f3_10
            have f4_13 := po (d := 87) hA4 (by decide) f3_13
            have f4_14 := po (d := 87) hA4 (by decide) f3_14
            have f4_86 := po (d := 87) hA4 (by decide) f3_86
            have f4_87 := ps (d := 87) hA4 zz3 (by decide)
            clear zz3 f3_10 f3_13 f3_14 f3_86
            refine lk (v := .int .i64 3) (op_load (p := ⟨q4, 0, none⟩) f4_87 z0') (wy (i := 2) (d := 86) (n := 136) rfl rfl zz4 (by decide) f4_86) (fun A5 hA5 => ?_)
            have zz5 := pz (d := 88) hA5 zz4
            have f5_10 := po (d := 88) hA5 (by decide) f4_10
            have f5_13 := po (d := 88) hA5 (by decide) f4_13
            have f5_14 := po (d := 88) hA5 (by decide) f4_14
            have f5_86 := po (d := 88) hA5 (by decide) f4_86
            have f5_88 := ps (d := 88) hA5 zz4 (by decide)
            clear zz4 f4_10 f4_13 f4_14 f4_86 f4_87
            refine lk (v := .bool true) (op_eqi (m := 3) (n := 3) rfl f5_88 (by decide)) (wy (i := 2) (d := 86) (n := 136) rfl rfl zz5 (by decide) f5_86) (fun A6 hA6 => ?_)
            have zz6 := pz (d := 89) hA6 zz5
            have f6_10 := po (d := 89) hA6 (by decide) f5_10
            have f6_13 := po (d := 89) hA6 (by decide) f5_13
            have f6_14 := po (d := 89) hA6 (by decide) f5_14
            have f6_86 := po (d := 89) hA6 (by decide) f5_86
            have f6_89 := ps (d := 89) hA6 zz5 (by decide)
            clear zz5 f5_10 f5_13 f5_14 f5_86 f5_88
            refine lk (v := .bool true) (op_move f6_14) (wy (i := 2) (d := 86) (n := 136) rfl rfl zz6 (by decide) f6_86) (fun A7 hA7 => ?_)
            have zz7 := pz (d := 90) hA7 zz6
            have f7_10 := po (d := 90) hA7 (by decide) f6_10
            have f7_13 := po (d := 90) hA7 (by decide) f6_13
            have f7_14 := po (d := 90) hA7 (by decide) f6_14
            have f7_86 := po (d := 90) hA7 (by decide) f6_86
            have f7_89 := po (d := 90) hA7 (by decide) f6_89
            have f7_90 := ps (d := 90) hA7 zz6 (by decide)
            clear zz6 f6_10 f6_13 f6_14 f6_86 f6_89
            refine lk (v := .bool false) (op_neb (b := true) (c := true) f7_89 f7_90 (by decide)) (wy (i := 2) (d := 86) (n := 136) rfl rfl zz7 (by decide) f7_86) (fun A8 hA8 => ?_)
            have zz8 := pz (d := 91) hA8 zz7
            have f8_10 := po (d := 91) hA8 (by decide) f7_10
            have f8_13 := po (d := 91) hA8 (by decide) f7_13
            have f8_14 := po (d := 91) hA8 (by decide) f7_14
            have f8_86 := po (d := 91) hA8 (by decide) f7_86
            have f8_91 := ps (d := 91) hA8 zz7 (by decide)
            clear zz7 f7_10 f7_13 f7_14 f7_86 f7_89 f7_90
            refine lk (v := .bool false) (op_pickF f8_86 f8_91) (wn rfl) (fun A9 hA9 => ?_)
            have zz9 := pz (d := 92) hA9 zz8
            have f9_10 := po (d := 92) hA9 (by decide) f8_10
            have f9_13 := po (d := 92) hA9 (by decide) f8_13
            have f9_14 := po (d := 92) hA9 (by decide) f8_14
            have f9_92 := ps (d := 92) hA9 zz8 (by decide)
            clear zz8 f8_10 f8_13 f8_14 f8_86 f8_91
            refine lk (v := .bool false) (op_move f9_92) (wn rfl) (fun A10 hA10 => ?_)
            have zz10 := pz (d := 93) hA10 zz9
            have f10_10 := po (d := 93) hA10 (by decide) f9_10
            have f10_13 := po (d := 93) hA10 (by decide) f9_13
            have f10_14 := po (d := 93) hA10 (by decide) f9_14
            have f10_93 := ps (d := 93) hA10 zz9 (by decide)
            clear zz9 f9_10 f9_13 f9_14 f9_92
            refine lk (v := .bool true) (op_move f10_14) (wy (i := 9) (d := 93) (n := 136) rfl rfl zz10 (by decide) f10_93) (fun A11 hA11 => ?_)
            have zz11 := pz (d := 94) hA11 zz10
            have f11_10 := po (d := 94) hA11 (by decide) f10_10
            have f11_13 := po (d := 94) hA11 (by decide) f10_13
            have f11_93 := po (d := 94) hA11 (by decide) f10_93
            have f11_94 := ps (d := 94) hA11 zz10 (by decide)
            clear zz10 f10_10 f10_13 f10_14 f10_93
            refine lk (v := .bool true) (op_move f11_94) (wy (i := 9) (d := 93) (n := 136) rfl rfl zz11 (by decide) f11_93) (fun A12 hA12 => ?_)
            have zz12 := pz (d := 95) hA12 zz11
            have f12_10 := po (d := 95) hA12 (by decide) f11_10
            have f12_13 := po (d := 95) hA12 (by decide) f11_13
            have f12_93 := po (d := 95) hA12 (by decide) f11_93
            have f12_95 := ps (d := 95) hA12 zz11 (by decide)
            clear zz11 f11_10 f11_13 f11_93 f11_94
            refine lk (v := .int .i64 nvv) (op_move f12_13) (wy (i := 11) (d := 95) (n := 136) rfl rfl zz12 (by decide) f12_95) (fun A13 hA13 => ?_)
            have zz13 := pz (d := 96) hA13 zz12
            have f13_10 := po (d := 96) hA13 (by decide) f12_10
            have f13_93 := po (d := 96) hA13 (by decide) f12_93
            have f13_95 := po (d := 96) hA13 (by decide) f12_95
            have f13_96 := ps (d := 96) hA13 zz12 (by decide)
            clear zz12 f12_10 f12_13 f12_93 f12_95
            refine lk (v := .pointer (some ⟨q4, 1, none⟩)) (op_fa1 (q := q4) f13_10) (wy (i := 11) (d := 95) (n := 136) rfl rfl zz13 (by decide) f13_95) (fun A14 hA14 => ?_)
            have zz14 := pz (d := 97) hA14 zz13
            have f14_10 := po (d := 97) hA14 (by decide) f13_10
            have f14_93 := po (d := 97) hA14 (by decide) f13_93
            have f14_95 := po (d := 97) hA14 (by decide) f13_95
            have f14_96 := po (d := 97) hA14 (by decide) f13_96
            have f14_97 := ps (d := 97) hA14 zz13 (by decide)
            clear zz13 f13_10 f13_93 f13_95 f13_96
            refine lk (v := .int .i64 nvv) (op_load (p := ⟨q4, 1, none⟩) f14_97 z1') (wy (i := 11) (d := 95) (n := 136) rfl rfl zz14 (by decide) f14_95) (fun A15 hA15 => ?_)
            have zz15 := pz (d := 98) hA15 zz14
            have f15_10 := po (d := 98) hA15 (by decide) f14_10
            have f15_93 := po (d := 98) hA15 (by decide) f14_93
            have f15_95 := po (d := 98) hA15 (by decide) f14_95
            have f15_96 := po (d := 98) hA15 (by decide) f14_96
            have f15_98 := ps (d := 98) hA15 zz14 (by decide)
            clear zz14 f14_10 f14_93 f14_95 f14_96 f14_97
            refine lk (v := .bool false) (op_nei (m := nvv) (n := nvv) f15_96 f15_98 dx) (wy (i := 11) (d := 95) (n := 136) rfl rfl zz15 (by decide) f15_95) (fun A16 hA16 => ?_)
            have zz16 := pz (d := 99) hA16 zz15
            have f16_10 := po (d := 99) hA16 (by decide) f15_10
            have f16_93 := po (d := 99) hA16 (by decide) f15_93
            have f16_95 := po (d := 99) hA16 (by decide) f15_95
            have f16_99 := ps (d := 99) hA16 zz15 (by decide)
            clear zz15 f15_10 f15_93 f15_95 f15_96 f15_98
            refine lk (v := .bool false) (op_pickT f16_95 f16_99) (wy (i := 9) (d := 93) (n := 136) rfl rfl zz16 (by decide) f16_93) (fun A17 hA17 => ?_)
            have zz17 := pz (d := 100) hA17 zz16
            have f17_10 := po (d := 100) hA17 (by decide) f16_10
            have f17_93 := po (d := 100) hA17 (by decide) f16_93
            have f17_100 := ps (d := 100) hA17 zz16 (by decide)
            clear zz16 f16_10 f16_93 f16_95 f16_99
            refine lk (v := .bool false) (op_pickF f17_93 f17_100) (wn rfl) (fun A18 hA18 => ?_)
            have zz18 := pz (d := 101) hA18 zz17
            have f18_10 := po (d := 101) hA18 (by decide) f17_10
            have f18_101 := ps (d := 101) hA18 zz17 (by decide)
            clear zz17 f17_10 f17_93 f17_100
            refine lk (v := .bool false) (op_move f18_101) (wn rfl) (fun A19 hA19 => ?_)
            have zz19 := pz (d := 102) hA19 zz18
            have f19_10 := po (d := 102) hA19 (by decide) f18_10
            have f19_102 := ps (d := 102) hA19 zz18 (by decide)
            clear zz18 f18_10 f18_101
            refine lk (v := .pointer (some ⟨q4, 0, none⟩)) (op_fa0 (q := q4) f19_10) (wy (i := 18) (d := 102) (n := 136) rfl rfl zz19 (by decide) f19_102) (fun A20 hA20 => ?_)
            have zz20 := pz (d := 103) hA20 zz19
            have f20_10 := po (d := 103) hA20 (by decide) f19_10
            have f20_102 := po (d := 103) hA20 (by decide) f19_102
            have f20_103 := ps (d := 103) hA20 zz19 (by decide)
            clear zz19 f19_10 f19_102
            refine lk (v := .int .i64 3) (op_load (p := ⟨q4, 0, none⟩) f20_103 z0') (wy (i := 18) (d := 102) (n := 136) rfl rfl zz20 (by decide) f20_102) (fun A21 hA21 => ?_)
            have zz21 := pz (d := 104) hA21 zz20
            have f21_10 := po (d := 104) hA21 (by decide) f20_10
            have f21_102 := po (d := 104) hA21 (by decide) f20_102
            have f21_104 := ps (d := 104) hA21 zz20 (by decide)
            clear zz20 f20_10 f20_102 f20_103
            refine lk (v := .bool false) (op_eqi (m := 3) (n := 4) rfl f21_104 (by decide)) (wy (i := 18) (d := 102) (n := 136) rfl rfl zz21 (by decide) f21_102) (fun A22 hA22 => ?_)
            have zz22 := pz (d := 105) hA22 zz21
            have f22_10 := po (d := 105) hA22 (by decide) f21_10
            have f22_102 := po (d := 105) hA22 (by decide) f21_102
            have f22_105 := ps (d := 105) hA22 zz21 (by decide)
            clear zz21 f21_10 f21_102 f21_104
            refine lk (v := .bool false) (op_move f22_105) (wy (i := 18) (d := 102) (n := 136) rfl rfl zz22 (by decide) f22_102) (fun A23 hA23 => ?_)
            have zz23 := pz (d := 106) hA23 zz22
            have f23_10 := po (d := 106) hA23 (by decide) f22_10
            have f23_102 := po (d := 106) hA23 (by decide) f22_102
            have f23_106 := ps (d := 106) hA23 zz22 (by decide)
            clear zz22 f22_10 f22_102 f22_105
            refine lu (wx (i := 22) (d := 106) (n := 136) rfl rfl zz23 (by decide) f23_106 (by decide)) (fun A24 hA24 => ?_)
            have zz24 := pz (d := 107) hA24 zz23
            have f24_10 := po (d := 107) hA24 (by decide) f23_10
            have f24_102 := po (d := 107) hA24 (by decide) f23_102
            have f24_106 := po (d := 107) hA24 (by decide) f23_106
            clear zz23 f23_10 f23_102 f23_106
            refine lu (wx (i := 22) (d := 106) (n := 136) rfl rfl zz24 (by decide) f24_106 (by decide)) (fun A25 hA25 => ?_)
            have zz25 := pz (d := 108) hA25 zz24
            have f25_10 := po (d := 108) hA25 (by decide) f24_10
            have f25_102 := po (d := 108) hA25 (by decide) f24_102
            have f25_106 := po (d := 108) hA25 (by decide) f24_106
            clear zz24 f24_10 f24_102 f24_106
            refine lu (wx (i := 22) (d := 106) (n := 136) rfl rfl zz25 (by decide) f25_106 (by decide)) (fun A26 hA26 => ?_)
            have zz26 := pz (d := 109) hA26 zz25
            have f26_10 := po (d := 109) hA26 (by decide) f25_10
            have f26_102 := po (d := 109) hA26 (by decide) f25_102
            have f26_106 := po (d := 109) hA26 (by decide) f25_106
            have f26_109 := ps (d := 109) hA26 zz25 (by decide)
            clear zz25 f25_10 f25_102 f25_106
            refine lu (wz (i := 25) (d := 109) (n := 136) rfl rfl zz26 (by decide) f26_109) (fun A27 hA27 => ?_)
            have zz27 := pz (d := 110) hA27 zz26
            have f27_10 := po (d := 110) hA27 (by decide) f26_10
            have f27_102 := po (d := 110) hA27 (by decide) f26_102
            have f27_106 := po (d := 110) hA27 (by decide) f26_106
            have f27_109 := po (d := 110) hA27 (by decide) f26_109
            clear zz26 f26_10 f26_102 f26_106 f26_109
            refine lu (wz (i := 25) (d := 109) (n := 136) rfl rfl zz27 (by decide) f27_109) (fun A28 hA28 => ?_)
            have zz28 := pz (d := 111) hA28 zz27
            have f28_10 := po (d := 111) hA28 (by decide) f27_10
            have f28_102 := po (d := 111) hA28 (by decide) f27_102
            have f28_106 := po (d := 111) hA28 (by decide) f27_106
            have f28_109 := po (d := 111) hA28 (by decide) f27_109
            clear zz27 f27_10 f27_102 f27_106 f27_109
            refine lu (wz (i := 25) (d := 109) (n := 136) rfl rfl zz28 (by decide) f28_109) (fun A29 hA29 => ?_)
            have zz29 := pz (d := 112) hA29 zz28
            have f29_10 := po (d := 112) hA29 (by decide) f28_10
            have f29_102 := po (d := 112) hA29 (by decide) f28_102
            have f29_106 := po (d := 112) hA29 (by decide) f28_106
            have f29_109 := po (d := 112) hA29 (by decide) f28_109
            clear zz28 f28_10 f28_102 f28_106 f28_109
            refine lu (wz (i := 25) (d := 109) (n := 136) rfl rfl zz29 (by decide) f29_109) (fun A30 hA30 => ?_)
            have zz30 := pz (d := 113) hA30 zz29
            have f30_10 := po (d := 113) hA30 (by decide) f29_10
            have f30_102 := po (d := 113) hA30 (by decide) f29_102
            have f30_106 := po (d := 113) hA30 (by decide) f29_106
            have f30_109 := po (d := 113) hA30 (by decide) f29_109
            clear zz29 f29_10 f29_102 f29_106 f29_109
            refine lu (wz (i := 25) (d := 109) (n := 136) rfl rfl zz30 (by decide) f30_109) (fun A31 hA31 => ?_)
            have zz31 := pz (d := 114) hA31 zz30
            have f31_10 := po (d := 114) hA31 (by decide) f30_10
            have f31_102 := po (d := 114) hA31 (by decide) f30_102
            have f31_106 := po (d := 114) hA31 (by decide) f30_106
            have f31_109 := po (d := 114) hA31 (by decide) f30_109
            clear zz30 f30_10 f30_102 f30_106 f30_109
            refine lu (wz (i := 25) (d := 109) (n := 136) rfl rfl zz31 (by decide) f31_109) (fun A32 hA32 => ?_)
            have zz32 := pz (d := 115) hA32 zz31
            have f32_10 := po (d := 115) hA32 (by decide) f31_10
            have f32_102 := po (d := 115) hA32 (by decide) f31_102
            have f32_106 := po (d := 115) hA32 (by decide) f31_106
            have f32_109 := po (d := 115) hA32 (by decide) f31_109
            clear zz31 f31_10 f31_102 f31_106 f31_109
            refine lu (wz (i := 25) (d := 109) (n := 136) rfl rfl zz32 (by decide) f32_109) (fun A33 hA33 => ?_)
            have zz33 := pz (d := 116) hA33 zz32
            have f33_10 := po (d := 116) hA33 (by decide) f32_10
            have f33_102 := po (d := 116) hA33 (by decide) f32_102
            have f33_106 := po (d := 116) hA33 (by decide) f32_106
            clear zz32 f32_10 f32_102 f32_106 f32_109
            refine lu (wx (i := 22) (d := 106) (n := 136) rfl rfl zz33 (by decide) f33_106 (by decide)) (fun A34 hA34 => ?_)
            have zz34 := pz (d := 117) hA34 zz33
            have f34_10 := po (d := 117) hA34 (by decide) f33_10
            have f34_102 := po (d := 117) hA34 (by decide) f33_102
            have f34_106 := po (d := 117) hA34 (by decide) f33_106
            clear zz33 f33_10 f33_102 f33_106
            refine lk (v := .bool false) (op_pickF f34_106 rfl) (wy (i := 18) (d := 102) (n := 136) rfl rfl zz34 (by decide) f34_102) (fun A35 hA35 => ?_)
            have zz35 := pz (d := 118) hA35 zz34
            have f35_10 := po (d := 118) hA35 (by decide) f34_10
            have f35_102 := po (d := 118) hA35 (by decide) f34_102
            have f35_118 := ps (d := 118) hA35 zz34 (by decide)
            clear zz34 f34_10 f34_102 f34_106
            refine lk (v := .bool false) (op_pickF f35_102 f35_118) (wn rfl) (fun A36 hA36 => ?_)
            have zz36 := pz (d := 119) hA36 zz35
            have f36_10 := po (d := 119) hA36 (by decide) f35_10
            have f36_119 := ps (d := 119) hA36 zz35 (by decide)
            clear zz35 f35_10 f35_102 f35_118
            refine lk (v := .bool false) (op_move f36_119) (wn rfl) (fun A37 hA37 => ?_)
            have zz37 := pz (d := 120) hA37 zz36
            have f37_10 := po (d := 120) hA37 (by decide) f36_10
            have f37_120 := ps (d := 120) hA37 zz36 (by decide)
            clear zz36 f36_10 f36_119
            refine lk (v := .pointer (some ⟨q4, 0, none⟩)) (op_fa0 (q := q4) f37_10) (wy (i := 36) (d := 120) (n := 136) rfl rfl zz37 (by decide) f37_120) (fun A38 hA38 => ?_)
            have zz38 := pz (d := 121) hA38 zz37
            have f38_120 := po (d := 121) hA38 (by decide) f37_120
            have f38_121 := ps (d := 121) hA38 zz37 (by decide)
            clear zz37 f37_10 f37_120
            refine lk (v := .int .i64 3) (op_load (p := ⟨q4, 0, none⟩) f38_121 z0') (wy (i := 36) (d := 120) (n := 136) rfl rfl zz38 (by decide) f38_120) (fun A39 hA39 => ?_)
            have zz39 := pz (d := 122) hA39 zz38
            have f39_120 := po (d := 122) hA39 (by decide) f38_120
            have f39_122 := ps (d := 122) hA39 zz38 (by decide)
            clear zz38 f38_120 f38_121
            refine lk (v := .bool false) (op_lti (m := 3) (n := 3) rfl f39_122 (by decide)) (wy (i := 36) (d := 120) (n := 136) rfl rfl zz39 (by decide) f39_120) (fun A40 hA40 => ?_)
            have zz40 := pz (d := 123) hA40 zz39
            have f40_120 := po (d := 123) hA40 (by decide) f39_120
            have f40_123 := ps (d := 123) hA40 zz39 (by decide)
            clear zz39 f39_120 f39_122
            refine lk (v := .bool false) (op_move f40_123) (wy (i := 36) (d := 120) (n := 136) rfl rfl zz40 (by decide) f40_120) (fun A41 hA41 => ?_)
            have zz41 := pz (d := 124) hA41 zz40
            have f41_120 := po (d := 124) hA41 (by decide) f40_120
            have f41_124 := ps (d := 124) hA41 zz40 (by decide)
            clear zz40 f40_120 f40_123
            refine lu (wx (i := 40) (d := 124) (n := 136) rfl rfl zz41 (by decide) f41_124 (by decide)) (fun A42 hA42 => ?_)
            have zz42 := pz (d := 125) hA42 zz41
            have f42_120 := po (d := 125) hA42 (by decide) f41_120
            have f42_124 := po (d := 125) hA42 (by decide) f41_124
            clear zz41 f41_120 f41_124
            refine lu (wx (i := 40) (d := 124) (n := 136) rfl rfl zz42 (by decide) f42_124 (by decide)) (fun A43 hA43 => ?_)
            have zz43 := pz (d := 126) hA43 zz42
            have f43_120 := po (d := 126) hA43 (by decide) f42_120
            have f43_124 := po (d := 126) hA43 (by decide) f42_124
            clear zz42 f42_120 f42_124
            refine lu (wx (i := 40) (d := 124) (n := 136) rfl rfl zz43 (by decide) f43_124 (by decide)) (fun A44 hA44 => ?_)
            have zz44 := pz (d := 127) hA44 zz43
            have f44_120 := po (d := 127) hA44 (by decide) f43_120
            have f44_124 := po (d := 127) hA44 (by decide) f43_124
            have f44_127 := ps (d := 127) hA44 zz43 (by decide)
            clear zz43 f43_120 f43_124
            refine lu (wz (i := 43) (d := 127) (n := 136) rfl rfl zz44 (by decide) f44_127) (fun A45 hA45 => ?_)
            have zz45 := pz (d := 128) hA45 zz44
            have f45_120 := po (d := 128) hA45 (by decide) f44_120
            have f45_124 := po (d := 128) hA45 (by decide) f44_124
            have f45_127 := po (d := 128) hA45 (by decide) f44_127
            clear zz44 f44_120 f44_124 f44_127
            refine lu (wz (i := 43) (d := 127) (n := 136) rfl rfl zz45 (by decide) f45_127) (fun A46 hA46 => ?_)
            have zz46 := pz (d := 129) hA46 zz45
            have f46_120 := po (d := 129) hA46 (by decide) f45_120
            have f46_124 := po (d := 129) hA46 (by decide) f45_124
            clear zz45 f45_120 f45_124 f45_127
            refine lu (wx (i := 40) (d := 124) (n := 136) rfl rfl zz46 (by decide) f46_124 (by decide)) (fun A47 hA47 => ?_)
            have zz47 := pz (d := 130) hA47 zz46
            have f47_120 := po (d := 130) hA47 (by decide) f46_120
            have f47_124 := po (d := 130) hA47 (by decide) f46_124
            clear zz46 f46_120 f46_124
            refine lk (v := .bool false) (op_pickF f47_124 rfl) (wy (i := 36) (d := 120) (n := 136) rfl rfl zz47 (by decide) f47_120) (fun A48 hA48 => ?_)
            have zz48 := pz (d := 131) hA48 zz47
            have f48_120 := po (d := 131) hA48 (by decide) f47_120
            have f48_131 := ps (d := 131) hA48 zz47 (by decide)
            clear zz47 f47_120 f47_124
            refine lk (v := .bool false) (op_pickF f48_120 f48_131) (wn rfl) (fun A49 hA49 => ?_)
            have zz49 := pz (d := 132) hA49 zz48
            have f49_132 := ps (d := 132) hA49 zz48 (by decide)
            clear zz48 f48_120 f48_131
            refine le0 ?_
            clear zz49 f49_132
            subst hA49 hA48 hA47 hA46 hA45 hA44 hA43 hA42 hA41 hA40 hA39 hA38 hA37 hA36 hA35 hA34 hA33 hA32 hA31 hA30 hA29 hA28 hA27 hA26 hA25 hA24 hA23 hA22 hA21 hA20 hA19 hA18 hA17 hA16 hA15 hA14 hA13 hA12 hA11 hA10 hA9 hA8 hA7 hA6 hA5 hA4 hA3 hA2 hA1
            subst hA0
            simp only [Act.put, nA]
            go_wp2
            go_roundw
            case rel => exact ⟨j + 1, by omega, by go_num, hB7⟩
            case measure => simp [intOf]; omega
          · as_aux_lemma =>
            subst e
            obtain ⟨rfl, rfl, _, _⟩ := wr3 rfl
            obtain ⟨m, rfl⟩ : ∃ m : Nat, v2 = m := ⟨v2.toNat, by omega⟩
            have hml : m < l4 := by omega
            have hmi : (m : Int) < (l4 : Int) := by omega
            have cm := hid.out _ hB7.out m hml
            have dx : ((4 + (m : Int)) != (4 + (m : Int))) = false := by simp
            clear wr2 wr3 wr4 hdb hok
            rw [show decide ((4 : Int) = 3) = false from rfl]
            apply wp_region_lit
            refine ge8 (fun A0 hA0 => ?_)
            have zz0 : A0.tmps.size = 136 := by rw [hA0]; rfl
            have f0_5 : A0.eval (.tmp 5) = .slice (some ⟨ir, 0, none⟩) l4 ic := by rw [hA0]; rfl
            have f0_10 : A0.eval (.tmp 10) = .pointer (some ⟨q4, 0, none⟩) := by rw [hA0]; rfl
            have f0_12 : A0.eval (.tmp 12) = .bool true := by rw [hA0]; rfl
            have f0_14 : A0.eval (.tmp 14) = .bool false := by rw [hA0]; rfl
            have f0_15 : A0.eval (.tmp 15) = .int .i64 (4 + (m : Int)) := by rw [hA0]; rfl
            have f0_16 : A0.eval (.tmp 16) = .bool true := by rw [hA0]; rfl
            refine lk (v := .bool true) (op_move f0_12) (wn rfl) (fun A1 hA1 => ?_)
            have zz1 := pz (d := 84) hA1 zz0
            have f1_5 := po (d := 84) hA1 (by decide) f0_5
            have f1_10 := po (d := 84) hA1 (by decide) f0_10
            have f1_14 := po (d := 84) hA1 (by decide) f0_14
            have f1_15 := po (d := 84) hA1 (by decide) f0_15
            have f1_16 := po (d := 84) hA1 (by decide) f0_16
            have f1_84 := ps (d := 84) hA1 zz0 (by decide)
            clear zz0 f0_5 f0_10 f0_12 f0_14 f0_15 f0_16
            refine lk (v := .bool false) (op_not (b := true) f1_84 rfl) (wn rfl) (fun A2 hA2 => ?_)
            have zz2 := pz (d := 85) hA2 zz1
            have f2_5 := po (d := 85) hA2 (by decide) f1_5
            have f2_10 := po (d := 85) hA2 (by decide) f1_10
            have f2_14 := po (d := 85) hA2 (by decide) f1_14
            have f2_15 := po (d := 85) hA2 (by decide) f1_15
            have f2_16 := po (d := 85) hA2 (by decide) f1_16
            have f2_85 := ps (d := 85) hA2 zz1 (by decide)
            clear zz1 f1_5 f1_10 f1_14 f1_15 f1_16 f1_84
            refine lk (v := .bool false) (op_move f2_85) (wn rfl) (fun A3 hA3 => ?_)
            have zz3 := pz (d := 86) hA3 zz2
            have f3_5 := po (d := 86) hA3 (by decide) f2_5
            have f3_10 := po (d := 86) hA3 (by decide) f2_10
            have f3_14 := po (d := 86) hA3 (by decide) f2_14
            have f3_15 := po (d := 86) hA3 (by decide) f2_15
            have f3_16 := po (d := 86) hA3 (by decide) f2_16
            have f3_86 := ps (d := 86) hA3 zz2 (by decide)
            clear zz2 f2_5 f2_10 f2_14 f2_15 f2_16 f2_85
            refine lk (v := .pointer (some ⟨q4, 0, none⟩)) (op_fa0 (q := q4) f3_10) (wy (i := 2) (d := 86) (n := 136) rfl rfl zz3 (by decide) f3_86) (fun A4 hA4 => ?_)
            have zz4 := pz (d := 87) hA4 zz3
            have f4_5 := po (d := 87) hA4 (by decide) f3_5
            have f4_10 := po (d := 87) hA4 (by decide) f3_10
            have f4_14 := po (d := 87) hA4 (by decide) f3_14
            have f4_15 := po (d := 87) hA4 (by decide) f3_15
            have f4_16 := po (d := 87) hA4 (by decide) f3_16
            have f4_86 := po (d := 87) hA4 (by decide) f3_86
            have f4_87 := ps (d := 87) hA4 zz3 (by decide)
            clear zz3 f3_5 f3_10 f3_14 f3_15 f3_16 f3_86
            refine lk (v := .int .i64 4) (op_load (p := ⟨q4, 0, none⟩) f4_87 z0') (wy (i := 2) (d := 86) (n := 136) rfl rfl zz4 (by decide) f4_86) (fun A5 hA5 => ?_)
            have zz5 := pz (d := 88) hA5 zz4
            have f5_5 := po (d := 88) hA5 (by decide) f4_5
            have f5_10 := po (d := 88) hA5 (by decide) f4_10
            have f5_14 := po (d := 88) hA5 (by decide) f4_14
            have f5_15 := po (d := 88) hA5 (by decide) f4_15
            have f5_16 := po (d := 88) hA5 (by decide) f4_16
            have f5_86 := po (d := 88) hA5 (by decide) f4_86
            have f5_88 := ps (d := 88) hA5 zz4 (by decide)
            clear zz4 f4_5 f4_10 f4_14 f4_15 f4_16 f4_86 f4_87
            refine lk (v := .bool false) (op_eqi (m := 4) (n := 3) rfl f5_88 (by decide)) (wy (i := 2) (d := 86) (n := 136) rfl rfl zz5 (by decide) f5_86) (fun A6 hA6 => ?_)
            have zz6 := pz (d := 89) hA6 zz5
            have f6_5 := po (d := 89) hA6 (by decide) f5_5
            have f6_10 := po (d := 89) hA6 (by decide) f5_10
            have f6_14 := po (d := 89) hA6 (by decide) f5_14
            have f6_15 := po (d := 89) hA6 (by decide) f5_15
            have f6_16 := po (d := 89) hA6 (by decide) f5_16
            have f6_86 := po (d := 89) hA6 (by decide) f5_86
            have f6_89 := ps (d := 89) hA6 zz5 (by decide)
            clear zz5 f5_5 f5_10 f5_14 f5_15 f5_16 f5_86 f5_88
            refine lk (v := .bool false) (op_move f6_14) (wy (i := 2) (d := 86) (n := 136) rfl rfl zz6 (by decide) f6_86) (fun A7 hA7 => ?_)
            have zz7 := pz (d := 90) hA7 zz6
            have f7_5 := po (d := 90) hA7 (by decide) f6_5
            have f7_10 := po (d := 90) hA7 (by decide) f6_10
            have f7_14 := po (d := 90) hA7 (by decide) f6_14
            have f7_15 := po (d := 90) hA7 (by decide) f6_15
            have f7_16 := po (d := 90) hA7 (by decide) f6_16
            have f7_86 := po (d := 90) hA7 (by decide) f6_86
            have f7_89 := po (d := 90) hA7 (by decide) f6_89
            have f7_90 := ps (d := 90) hA7 zz6 (by decide)
            clear zz6 f6_5 f6_10 f6_14 f6_15 f6_16 f6_86 f6_89
            refine lk (v := .bool false) (op_neb (b := false) (c := false) f7_89 f7_90 (by decide)) (wy (i := 2) (d := 86) (n := 136) rfl rfl zz7 (by decide) f7_86) (fun A8 hA8 => ?_)
            have zz8 := pz (d := 91) hA8 zz7
            have f8_5 := po (d := 91) hA8 (by decide) f7_5
            have f8_10 := po (d := 91) hA8 (by decide) f7_10
            have f8_14 := po (d := 91) hA8 (by decide) f7_14
            have f8_15 := po (d := 91) hA8 (by decide) f7_15
            have f8_16 := po (d := 91) hA8 (by decide) f7_16
            have f8_86 := po (d := 91) hA8 (by decide) f7_86
            have f8_91 := ps (d := 91) hA8 zz7 (by decide)
            clear zz7 f7_5 f7_10 f7_14 f7_15 f7_16 f7_86 f7_89 f7_90
            refine lk (v := .bool false) (op_pickF f8_86 f8_91) (wn rfl) (fun A9 hA9 => ?_)
            have zz9 := pz (d := 92) hA9 zz8
            have f9_5 := po (d := 92) hA9 (by decide) f8_5
            have f9_10 := po (d := 92) hA9 (by decide) f8_10
            have f9_14 := po (d := 92) hA9 (by decide) f8_14
            have f9_15 := po (d := 92) hA9 (by decide) f8_15
            have f9_16 := po (d := 92) hA9 (by decide) f8_16
            have f9_92 := ps (d := 92) hA9 zz8 (by decide)
            clear zz8 f8_5 f8_10 f8_14 f8_15 f8_16 f8_86 f8_91
            refine lk (v := .bool false) (op_move f9_92) (wn rfl) (fun A10 hA10 => ?_)
            have zz10 := pz (d := 93) hA10 zz9
            have f10_5 := po (d := 93) hA10 (by decide) f9_5
            have f10_10 := po (d := 93) hA10 (by decide) f9_10
            have f10_14 := po (d := 93) hA10 (by decide) f9_14
            have f10_15 := po (d := 93) hA10 (by decide) f9_15
            have f10_16 := po (d := 93) hA10 (by decide) f9_16
            have f10_93 := ps (d := 93) hA10 zz9 (by decide)
            clear zz9 f9_5 f9_10 f9_14 f9_15 f9_16 f9_92
            refine lk (v := .bool false) (op_move f10_14) (wy (i := 9) (d := 93) (n := 136) rfl rfl zz10 (by decide) f10_93) (fun A11 hA11 => ?_)
            have zz11 := pz (d := 94) hA11 zz10
            have f11_5 := po (d := 94) hA11 (by decide) f10_5
            have f11_10 := po (d := 94) hA11 (by decide) f10_10
            have f11_15 := po (d := 94) hA11 (by decide) f10_15
            have f11_16 := po (d := 94) hA11 (by decide) f10_16
            have f11_93 := po (d := 94) hA11 (by decide) f10_93
            have f11_94 := ps (d := 94) hA11 zz10 (by decide)
            clear zz10 f10_5 f10_10 f10_14 f10_15 f10_16 f10_93
            refine lk (v := .bool false) (op_move f11_94) (wy (i := 9) (d := 93) (n := 136) rfl rfl zz11 (by decide) f11_93) (fun A12 hA12 => ?_)
            have zz12 := pz (d := 95) hA12 zz11
            have f12_5 := po (d := 95) hA12 (by decide) f11_5
            have f12_10 := po (d := 95) hA12 (by decide) f11_10
            have f12_15 := po (d := 95) hA12 (by decide) f11_15
            have f12_16 := po (d := 95) hA12 (by decide) f11_16
            have f12_93 := po (d := 95) hA12 (by decide) f11_93
            have f12_95 := ps (d := 95) hA12 zz11 (by decide)
            clear zz11 f11_5 f11_10 f11_15 f11_16 f11_93 f11_94
            refine lu (wx (i := 11) (d := 95) (n := 136) rfl rfl zz12 (by decide) f12_95 (by decide)) (fun A13 hA13 => ?_)
            have zz13 := pz (d := 96) hA13 zz12
            have f13_5 := po (d := 96) hA13 (by decide) f12_5
            have f13_10 := po (d := 96) hA13 (by decide) f12_10
            have f13_15 := po (d := 96) hA13 (by decide) f12_15
            have f13_16 := po (d := 96) hA13 (by decide) f12_16
            have f13_93 := po (d := 96) hA13 (by decide) f12_93
            have f13_95 := po (d := 96) hA13 (by decide) f12_95
            clear zz12 f12_5 f12_10 f12_15 f12_16 f12_93 f12_95
            refine lu (wx (i := 11) (d := 95) (n := 136) rfl rfl zz13 (by decide) f13_95 (by decide)) (fun A14 hA14 => ?_)
            have zz14 := pz (d := 97) hA14 zz13
            have f14_5 := po (d := 97) hA14 (by decide) f13_5
            have f14_10 := po (d := 97) hA14 (by decide) f13_10
            have f14_15 := po (d := 97) hA14 (by decide) f13_15
            have f14_16 := po (d := 97) hA14 (by decide) f13_16
            have f14_93 := po (d := 97) hA14 (by decide) f13_93
            have f14_95 := po (d := 97) hA14 (by decide) f13_95
            clear zz13 f13_5 f13_10 f13_15 f13_16 f13_93 f13_95
            refine lu (wx (i := 11) (d := 95) (n := 136) rfl rfl zz14 (by decide) f14_95 (by decide)) (fun A15 hA15 => ?_)
            have zz15 := pz (d := 98) hA15 zz14
            have f15_5 := po (d := 98) hA15 (by decide) f14_5
            have f15_10 := po (d := 98) hA15 (by decide) f14_10
            have f15_15 := po (d := 98) hA15 (by decide) f14_15
            have f15_16 := po (d := 98) hA15 (by decide) f14_16
            have f15_93 := po (d := 98) hA15 (by decide) f14_93
            have f15_95 := po (d := 98) hA15 (by decide) f14_95
            clear zz14 f14_5 f14_10 f14_15 f14_16 f14_93 f14_95
            refine lu (wx (i := 11) (d := 95) (n := 136) rfl rfl zz15 (by decide) f15_95 (by decide)) (fun A16 hA16 => ?_)
            have zz16 := pz (d := 99) hA16 zz15
            have f16_5 := po (d := 99) hA16 (by decide) f15_5
            have f16_10 := po (d := 99) hA16 (by decide) f15_10
            have f16_15 := po (d := 99) hA16 (by decide) f15_15
            have f16_16 := po (d := 99) hA16 (by decide) f15_16
            have f16_93 := po (d := 99) hA16 (by decide) f15_93
            have f16_95 := po (d := 99) hA16 (by decide) f15_95
            clear zz15 f15_5 f15_10 f15_15 f15_16 f15_93 f15_95
            refine lk (v := .bool false) (op_pickF f16_95 rfl) (wy (i := 9) (d := 93) (n := 136) rfl rfl zz16 (by decide) f16_93) (fun A17 hA17 => ?_)
            have zz17 := pz (d := 100) hA17 zz16
            have f17_5 := po (d := 100) hA17 (by decide) f16_5
            have f17_10 := po (d := 100) hA17 (by decide) f16_10
            have f17_15 := po (d := 100) hA17 (by decide) f16_15
            have f17_16 := po (d := 100) hA17 (by decide) f16_16
            have f17_93 := po (d := 100) hA17 (by decide) f16_93
            have f17_100 := ps (d := 100) hA17 zz16 (by decide)
            clear zz16 f16_5 f16_10 f16_15 f16_16 f16_93 f16_95
            refine lk (v := .bool false) (op_pickF f17_93 f17_100) (wn rfl) (fun A18 hA18 => ?_)
            have zz18 := pz (d := 101) hA18 zz17
            have f18_5 := po (d := 101) hA18 (by decide) f17_5
            have f18_10 := po (d := 101) hA18 (by decide) f17_10
            have f18_15 := po (d := 101) hA18 (by decide) f17_15
            have f18_16 := po (d := 101) hA18 (by decide) f17_16
            have f18_101 := ps (d := 101) hA18 zz17 (by decide)
            clear zz17 f17_5 f17_10 f17_15 f17_16 f17_93 f17_100
            refine lk (v := .bool false) (op_move f18_101) (wn rfl) (fun A19 hA19 => ?_)
            have zz19 := pz (d := 102) hA19 zz18
            have f19_5 := po (d := 102) hA19 (by decide) f18_5
            have f19_10 := po (d := 102) hA19 (by decide) f18_10
            have f19_15 := po (d := 102) hA19 (by decide) f18_15
            have f19_16 := po (d := 102) hA19 (by decide) f18_16
            have f19_102 := ps (d := 102) hA19 zz18 (by decide)
            clear zz18 f18_5 f18_10 f18_15 f18_16 f18_101
            refine lk (v := .pointer (some ⟨q4, 0, none⟩)) (op_fa0 (q := q4) f19_10) (wy (i := 18) (d := 102) (n := 136) rfl rfl zz19 (by decide) f19_102) (fun A20 hA20 => ?_)
            have zz20 := pz (d := 103) hA20 zz19
            have f20_5 := po (d := 103) hA20 (by decide) f19_5
            have f20_10 := po (d := 103) hA20 (by decide) f19_10
            have f20_15 := po (d := 103) hA20 (by decide) f19_15
            have f20_16 := po (d := 103) hA20 (by decide) f19_16
            have f20_102 := po (d := 103) hA20 (by decide) f19_102
            have f20_103 := ps (d := 103) hA20 zz19 (by decide)
            clear zz19 f19_5 f19_10 f19_15 f19_16 f19_102
            refine lk (v := .int .i64 4) (op_load (p := ⟨q4, 0, none⟩) f20_103 z0') (wy (i := 18) (d := 102) (n := 136) rfl rfl zz20 (by decide) f20_102) (fun A21 hA21 => ?_)
            have zz21 := pz (d := 104) hA21 zz20
            have f21_5 := po (d := 104) hA21 (by decide) f20_5
            have f21_10 := po (d := 104) hA21 (by decide) f20_10
            have f21_15 := po (d := 104) hA21 (by decide) f20_15
            have f21_16 := po (d := 104) hA21 (by decide) f20_16
            have f21_102 := po (d := 104) hA21 (by decide) f20_102
            have f21_104 := ps (d := 104) hA21 zz20 (by decide)
            clear zz20 f20_5 f20_10 f20_15 f20_16 f20_102 f20_103
            refine lk (v := .bool true) (op_eqi (m := 4) (n := 4) rfl f21_104 (by decide)) (wy (i := 18) (d := 102) (n := 136) rfl rfl zz21 (by decide) f21_102) (fun A22 hA22 => ?_)
            have zz22 := pz (d := 105) hA22 zz21
            have f22_5 := po (d := 105) hA22 (by decide) f21_5
            have f22_10 := po (d := 105) hA22 (by decide) f21_10
            have f22_15 := po (d := 105) hA22 (by decide) f21_15
            have f22_16 := po (d := 105) hA22 (by decide) f21_16
            have f22_102 := po (d := 105) hA22 (by decide) f21_102
            have f22_105 := ps (d := 105) hA22 zz21 (by decide)
            clear zz21 f21_5 f21_10 f21_15 f21_16 f21_102 f21_104
            refine lk (v := .bool true) (op_move f22_105) (wy (i := 18) (d := 102) (n := 136) rfl rfl zz22 (by decide) f22_102) (fun A23 hA23 => ?_)
            have zz23 := pz (d := 106) hA23 zz22
            have f23_5 := po (d := 106) hA23 (by decide) f22_5
            have f23_10 := po (d := 106) hA23 (by decide) f22_10
            have f23_15 := po (d := 106) hA23 (by decide) f22_15
            have f23_16 := po (d := 106) hA23 (by decide) f22_16
            have f23_102 := po (d := 106) hA23 (by decide) f22_102
            have f23_106 := ps (d := 106) hA23 zz22 (by decide)
            clear zz22 f22_5 f22_10 f22_15 f22_16 f22_102 f22_105
            refine lk (v := .bool true) (op_move f23_16) (wy (i := 22) (d := 106) (n := 136) rfl rfl zz23 (by decide) f23_106) (fun A24 hA24 => ?_)
            have zz24 := pz (d := 107) hA24 zz23
            have f24_5 := po (d := 107) hA24 (by decide) f23_5
            have f24_10 := po (d := 107) hA24 (by decide) f23_10
            have f24_15 := po (d := 107) hA24 (by decide) f23_15
            have f24_102 := po (d := 107) hA24 (by decide) f23_102
            have f24_106 := po (d := 107) hA24 (by decide) f23_106
            have f24_107 := ps (d := 107) hA24 zz23 (by decide)
            clear zz23 f23_5 f23_10 f23_15 f23_16 f23_102 f23_106
            refine lk (v := .bool false) (op_not (b := true) f24_107 rfl) (wy (i := 22) (d := 106) (n := 136) rfl rfl zz24 (by decide) f24_106) (fun A25 hA25 => ?_)
            have zz25 := pz (d := 108) hA25 zz24
            have f25_5 := po (d := 108) hA25 (by decide) f24_5
            have f25_10 := po (d := 108) hA25 (by decide) f24_10
            have f25_15 := po (d := 108) hA25 (by decide) f24_15
            have f25_102 := po (d := 108) hA25 (by decide) f24_102
            have f25_106 := po (d := 108) hA25 (by decide) f24_106
            have f25_108 := ps (d := 108) hA25 zz24 (by decide)
            clear zz24 f24_5 f24_10 f24_15 f24_102 f24_106 f24_107
            refine lk (v := .bool false) (op_move f25_108) (wy (i := 22) (d := 106) (n := 136) rfl rfl zz25 (by decide) f25_106) (fun A26 hA26 => ?_)
            have zz26 := pz (d := 109) hA26 zz25
            have f26_5 := po (d := 109) hA26 (by decide) f25_5
            have f26_10 := po (d := 109) hA26 (by decide) f25_10
            have f26_15 := po (d := 109) hA26 (by decide) f25_15
            have f26_102 := po (d := 109) hA26 (by decide) f25_102
            have f26_106 := po (d := 109) hA26 (by decide) f25_106
            have f26_109 := ps (d := 109) hA26 zz25 (by decide)
            clear zz25 f25_5 f25_10 f25_15 f25_102 f25_106 f25_108
            refine lk (v := .int .i64 (4 + (m : Int))) (op_move f26_15) (wy (i := 25) (d := 109) (n := 136) rfl rfl zz26 (by decide) f26_109) (fun A27 hA27 => ?_)
            have zz27 := pz (d := 110) hA27 zz26
            have f27_5 := po (d := 110) hA27 (by decide) f26_5
            have f27_10 := po (d := 110) hA27 (by decide) f26_10
            have f27_102 := po (d := 110) hA27 (by decide) f26_102
            have f27_106 := po (d := 110) hA27 (by decide) f26_106
            have f27_109 := po (d := 110) hA27 (by decide) f26_109
            have f27_110 := ps (d := 110) hA27 zz26 (by decide)
            clear zz26 f26_5 f26_10 f26_15 f26_102 f26_106 f26_109
            refine lk (v := .slice (some ⟨ir, 0, none⟩) l4 ic) (op_move f27_5) (wy (i := 25) (d := 109) (n := 136) rfl rfl zz27 (by decide) f27_109) (fun A28 hA28 => ?_)
            have zz28 := pz (d := 111) hA28 zz27
            have f28_10 := po (d := 111) hA28 (by decide) f27_10
            have f28_102 := po (d := 111) hA28 (by decide) f27_102
            have f28_106 := po (d := 111) hA28 (by decide) f27_106
            have f28_109 := po (d := 111) hA28 (by decide) f27_109
            have f28_110 := po (d := 111) hA28 (by decide) f27_110
            have f28_111 := ps (d := 111) hA28 zz27 (by decide)
            clear zz27 f27_5 f27_10 f27_102 f27_106 f27_109 f27_110
            refine lk (v := .pointer (some ⟨q4, 1, none⟩)) (op_fa1 (q := q4) f28_10) (wy (i := 25) (d := 109) (n := 136) rfl rfl zz28 (by decide) f28_109) (fun A29 hA29 => ?_)
            have zz29 := pz (d := 112) hA29 zz28
            have f29_10 := po (d := 112) hA29 (by decide) f28_10
            have f29_102 := po (d := 112) hA29 (by decide) f28_102
            have f29_106 := po (d := 112) hA29 (by decide) f28_106
            have f29_109 := po (d := 112) hA29 (by decide) f28_109
            have f29_110 := po (d := 112) hA29 (by decide) f28_110
            have f29_111 := po (d := 112) hA29 (by decide) f28_111
            have f29_112 := ps (d := 112) hA29 zz28 (by decide)
            clear zz28 f28_10 f28_102 f28_106 f28_109 f28_110 f28_111
            refine lk (v := .int .i64 (m : Int)) (op_load (p := ⟨q4, 1, none⟩) f29_112 z1') (wy (i := 25) (d := 109) (n := 136) rfl rfl zz29 (by decide) f29_109) (fun A30 hA30 => ?_)
            have zz30 := pz (d := 113) hA30 zz29
            have f30_10 := po (d := 113) hA30 (by decide) f29_10
            have f30_102 := po (d := 113) hA30 (by decide) f29_102
            have f30_106 := po (d := 113) hA30 (by decide) f29_106
            have f30_109 := po (d := 113) hA30 (by decide) f29_109
            have f30_110 := po (d := 113) hA30 (by decide) f29_110
            have f30_111 := po (d := 113) hA30 (by decide) f29_111
            have f30_113 := ps (d := 113) hA30 zz29 (by decide)
            clear zz29 f29_10 f29_102 f29_106 f29_109 f29_110 f29_111 f29_112
            refine lk (v := .pointer (some ⟨ir, m, none⟩)) (op_idx (q := ir) (k := m) (l := l4) (c := ic) f30_111 f30_113 hml) (wy (i := 25) (d := 109) (n := 136) rfl rfl zz30 (by decide) f30_109) (fun A31 hA31 => ?_)
            have zz31 := pz (d := 114) hA31 zz30
            have f31_10 := po (d := 114) hA31 (by decide) f30_10
            have f31_102 := po (d := 114) hA31 (by decide) f30_102
            have f31_106 := po (d := 114) hA31 (by decide) f30_106
            have f31_109 := po (d := 114) hA31 (by decide) f30_109
            have f31_110 := po (d := 114) hA31 (by decide) f30_110
            have f31_114 := ps (d := 114) hA31 zz30 (by decide)
            clear zz30 f30_10 f30_102 f30_106 f30_109 f30_110 f30_111 f30_113
            refine lk (v := .int .i64 (4 + (m : Int))) (op_load (p := ⟨ir, m, none⟩) f31_114 cm) (wy (i := 25) (d := 109) (n := 136) rfl rfl zz31 (by decide) f31_109) (fun A32 hA32 => ?_)
            have zz32 := pz (d := 115) hA32 zz31
            have f32_10 := po (d := 115) hA32 (by decide) f31_10
            have f32_102 := po (d := 115) hA32 (by decide) f31_102
            have f32_106 := po (d := 115) hA32 (by decide) f31_106
            have f32_109 := po (d := 115) hA32 (by decide) f31_109
            have f32_110 := po (d := 115) hA32 (by decide) f31_110
            have f32_115 := ps (d := 115) hA32 zz31 (by decide)
            clear zz31 f31_10 f31_102 f31_106 f31_109 f31_110 f31_114
            refine lk (v := .bool false) (op_nei (m := (4 + (m : Int))) (n := (4 + (m : Int))) f32_110 f32_115 dx) (wy (i := 25) (d := 109) (n := 136) rfl rfl zz32 (by decide) f32_109) (fun A33 hA33 => ?_)
            have zz33 := pz (d := 116) hA33 zz32
            have f33_10 := po (d := 116) hA33 (by decide) f32_10
            have f33_102 := po (d := 116) hA33 (by decide) f32_102
            have f33_106 := po (d := 116) hA33 (by decide) f32_106
            have f33_109 := po (d := 116) hA33 (by decide) f32_109
            have f33_116 := ps (d := 116) hA33 zz32 (by decide)
            clear zz32 f32_10 f32_102 f32_106 f32_109 f32_110 f32_115
            refine lk (v := .bool false) (op_pickF f33_109 f33_116) (wy (i := 22) (d := 106) (n := 136) rfl rfl zz33 (by decide) f33_106) (fun A34 hA34 => ?_)
            have zz34 := pz (d := 117) hA34 zz33
            have f34_10 := po (d := 117) hA34 (by decide) f33_10
            have f34_102 := po (d := 117) hA34 (by decide) f33_102
            have f34_106 := po (d := 117) hA34 (by decide) f33_106
            have f34_117 := ps (d := 117) hA34 zz33 (by decide)
            clear zz33 f33_10 f33_102 f33_106 f33_109 f33_116
            refine lk (v := .bool false) (op_pickT f34_106 f34_117) (wy (i := 18) (d := 102) (n := 136) rfl rfl zz34 (by decide) f34_102) (fun A35 hA35 => ?_)
            have zz35 := pz (d := 118) hA35 zz34
            have f35_10 := po (d := 118) hA35 (by decide) f34_10
            have f35_102 := po (d := 118) hA35 (by decide) f34_102
            have f35_118 := ps (d := 118) hA35 zz34 (by decide)
            clear zz34 f34_10 f34_102 f34_106 f34_117
            refine lk (v := .bool false) (op_pickF f35_102 f35_118) (wn rfl) (fun A36 hA36 => ?_)
            have zz36 := pz (d := 119) hA36 zz35
            have f36_10 := po (d := 119) hA36 (by decide) f35_10
            have f36_119 := ps (d := 119) hA36 zz35 (by decide)
            clear zz35 f35_10 f35_102 f35_118
            refine lk (v := .bool false) (op_move f36_119) (wn rfl) (fun A37 hA37 => ?_)
            have zz37 := pz (d := 120) hA37 zz36
            have f37_10 := po (d := 120) hA37 (by decide) f36_10
            have f37_120 := ps (d := 120) hA37 zz36 (by decide)
            clear zz36 f36_10 f36_119
            refine lk (v := .pointer (some ⟨q4, 0, none⟩)) (op_fa0 (q := q4) f37_10) (wy (i := 36) (d := 120) (n := 136) rfl rfl zz37 (by decide) f37_120) (fun A38 hA38 => ?_)
            have zz38 := pz (d := 121) hA38 zz37
            have f38_120 := po (d := 121) hA38 (by decide) f37_120
            have f38_121 := ps (d := 121) hA38 zz37 (by decide)
            clear zz37 f37_10 f37_120
            refine lk (v := .int .i64 4) (op_load (p := ⟨q4, 0, none⟩) f38_121 z0') (wy (i := 36) (d := 120) (n := 136) rfl rfl zz38 (by decide) f38_120) (fun A39 hA39 => ?_)
            have zz39 := pz (d := 122) hA39 zz38
            have f39_120 := po (d := 122) hA39 (by decide) f38_120
            have f39_122 := ps (d := 122) hA39 zz38 (by decide)
            clear zz38 f38_120 f38_121
            refine lk (v := .bool false) (op_lti (m := 4) (n := 3) rfl f39_122 (by decide)) (wy (i := 36) (d := 120) (n := 136) rfl rfl zz39 (by decide) f39_120) (fun A40 hA40 => ?_)
            have zz40 := pz (d := 123) hA40 zz39
            have f40_120 := po (d := 123) hA40 (by decide) f39_120
            have f40_123 := ps (d := 123) hA40 zz39 (by decide)
            clear zz39 f39_120 f39_122
            refine lk (v := .bool false) (op_move f40_123) (wy (i := 36) (d := 120) (n := 136) rfl rfl zz40 (by decide) f40_120) (fun A41 hA41 => ?_)
            have zz41 := pz (d := 124) hA41 zz40
            have f41_120 := po (d := 124) hA41 (by decide) f40_120
            have f41_124 := ps (d := 124) hA41 zz40 (by decide)
            clear zz40 f40_120 f40_123
            refine lu (wx (i := 40) (d := 124) (n := 136) rfl rfl zz41 (by decide) f41_124 (by decide)) (fun A42 hA42 => ?_)
            have zz42 := pz (d := 125) hA42 zz41
            have f42_120 := po (d := 125) hA42 (by decide) f41_120
            have f42_124 := po (d := 125) hA42 (by decide) f41_124
            clear zz41 f41_120 f41_124
            refine lu (wx (i := 40) (d := 124) (n := 136) rfl rfl zz42 (by decide) f42_124 (by decide)) (fun A43 hA43 => ?_)
            have zz43 := pz (d := 126) hA43 zz42
            have f43_120 := po (d := 126) hA43 (by decide) f42_120
            have f43_124 := po (d := 126) hA43 (by decide) f42_124
            clear zz42 f42_120 f42_124
            refine lu (wx (i := 40) (d := 124) (n := 136) rfl rfl zz43 (by decide) f43_124 (by decide)) (fun A44 hA44 => ?_)
            have zz44 := pz (d := 127) hA44 zz43
            have f44_120 := po (d := 127) hA44 (by decide) f43_120
            have f44_124 := po (d := 127) hA44 (by decide) f43_124
            have f44_127 := ps (d := 127) hA44 zz43 (by decide)
            clear zz43 f43_120 f43_124
            refine lu (wz (i := 43) (d := 127) (n := 136) rfl rfl zz44 (by decide) f44_127) (fun A45 hA45 => ?_)
            have zz45 := pz (d := 128) hA45 zz44
            have f45_120 := po (d := 128) hA45 (by decide) f44_120
            have f45_124 := po (d := 128) hA45 (by decide) f44_124
            have f45_127 := po (d := 128) hA45 (by decide) f44_127
            clear zz44 f44_120 f44_124 f44_127
            refine lu (wz (i := 43) (d := 127) (n := 136) rfl rfl zz45 (by decide) f45_127) (fun A46 hA46 => ?_)
            have zz46 := pz (d := 129) hA46 zz45
            have f46_120 := po (d := 129) hA46 (by decide) f45_120
            have f46_124 := po (d := 129) hA46 (by decide) f45_124
            clear zz45 f45_120 f45_124 f45_127
            refine lu (wx (i := 40) (d := 124) (n := 136) rfl rfl zz46 (by decide) f46_124 (by decide)) (fun A47 hA47 => ?_)
            have zz47 := pz (d := 130) hA47 zz46
            have f47_120 := po (d := 130) hA47 (by decide) f46_120
            have f47_124 := po (d := 130) hA47 (by decide) f46_124
            clear zz46 f46_120 f46_124
            refine lk (v := .bool false) (op_pickF f47_124 rfl) (wy (i := 36) (d := 120) (n := 136) rfl rfl zz47 (by decide) f47_120) (fun A48 hA48 => ?_)
            have zz48 := pz (d := 131) hA48 zz47
            have f48_120 := po (d := 131) hA48 (by decide) f47_120
            have f48_131 := ps (d := 131) hA48 zz47 (by decide)
            clear zz47 f47_120 f47_124
            refine lk (v := .bool false) (op_pickF f48_120 f48_131) (wn rfl) (fun A49 hA49 => ?_)
            have zz49 := pz (d := 132) hA49 zz48
            have f49_132 := ps (d := 132) hA49 zz48 (by decide)
            clear zz48 f48_120 f48_131
            refine le0 ?_
            clear zz49 f49_132
            subst hA49 hA48 hA47 hA46 hA45 hA44 hA43 hA42 hA41 hA40 hA39 hA38 hA37 hA36 hA35 hA34 hA33 hA32 hA31 hA30 hA29 hA28 hA27 hA26 hA25 hA24 hA23 hA22 hA21 hA20 hA19 hA18 hA17 hA16 hA15 hA14 hA13 hA12 hA11 hA10 hA9 hA8 hA7 hA6 hA5 hA4 hA3 hA2 hA1
            subst hA0
            simp only [Act.put, nA]
            go_wp2
            go_roundw
            case rel => exact ⟨j + 1, by omega, by go_num, hB7⟩
            case measure => simp [intOf]; omega
        · as_aux_lemma =>
          have e : j = fl := by omega
          subst e
          have d1 : decide ((j : Int) < (j : Int)) = false := by simp
          go_wp2
          go_roundw
          case rel => exact ⟨k + 1, by omega, by go_num, hB⟩
          case measure => simp [intOf]; omega
    · as_aux_lemma =>
      have e : k = l4 := by omega
      subst e
      have d1 : decide ((k : Int) < (k : Int)) = false := by simp
      have hb5 := Lib.hid h5.out.bel
      have hbr := Lib.hid (hb5.out.trans (hB.out.mono hb5.out.size))
      go_wp2_with (go_at_call 12; (refine (known8_c _).mono ?_); rintro e w3 ⟨rfl, hb3⟩; replace hb3 := Lib.hid hb3)
      go_ret
      exact ⟨rfl, (hbw.out.trans (hbr.out.mono hbw.out.size)).trans (hb3.out.mono (hbw.out.trans (hbr.out.mono hbw.out.size)).size)⟩
end Wd
end Go.Proofs.Yteiejjmhmmkdhaa
