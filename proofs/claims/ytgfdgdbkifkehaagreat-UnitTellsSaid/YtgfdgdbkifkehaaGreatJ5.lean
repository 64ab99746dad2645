/- Texts joined: USA, UOA, UOS, UOT, USK. -/
import Derived.Test.YtgfdgdbkifkehaaGreatJ1
import Derived.Test.YtgfdgdbkifkehaaGreatJ3
import Derived.Test.YtgfdgdbkifkehaaGreatJ4
import Derived.BigRegion
import Derived.Deep.RegionHeld3
import Derived.Deep.RegionWith
import Derived.Deep.DeepCutAuto
import Derived.Deep.CutBlock
import Derived.Maps.AppendAt
import Derived.Deep.AppendLies
import Derived.Deep.MidRow
/- Are two programs the same? (the document's own: the walk) -/
namespace Go.Proofs.YtgfdgdbkifkehaaGreat
open Go.RowKit
set_option linter.unusedVariables false
set_option maxRecDepth 20000
namespace Wd
set_option maxHeartbeats 32000000 in
theorem rsame_c {w : World} {a b : Value} {U V : UnitA} (ha : UnK w a U) (hb : UnK w b V) :
    Calls Tryz.prog 13 #[a, b] w fun e w' => e = .returned (.bool (sameU U V)) ∧ Below w.heap.size w w' := by
  obtain ⟨na, nc, ca, cc, ma, mc, oa, oc, rfl, ha'⟩ := ha.ex
  obtain ⟨pa, pc, qa, qc, ra, rc, sa, sc, rfl, hb'⟩ := hb.ex
  clear ha hb
  obtain ⟨_, _, e1, k1, m1, -⟩ := ha'.n.ex
  cases e1
  obtain ⟨_, _, e2, k2, m2⟩ := ha'.c.form
  cases e2
  obtain ⟨_, _, e3, k3, m3, -⟩ := ha'.m.ex
  cases e3
  obtain ⟨_, _, e4, k4, m4⟩ := ha'.o.form
  cases e4
  obtain ⟨_, _, e5, k5, m5, -⟩ := hb'.n.ex
  cases e5
  obtain ⟨_, _, e6, k6, m6⟩ := hb'.c.form
  cases e6
  obtain ⟨_, _, e7, k7, m7, -⟩ := hb'.m.ex
  cases e7
  obtain ⟨_, _, e8, k8, m8⟩ := hb'.o.form
  cases e8
  obtain ⟨v1, v2, v3, v4⟩ := ha'
  obtain ⟨v5, v6, v7, v8⟩ := hb'
  obtain ⟨l1, g1⟩ : ∃ n, n = U.names.length := ⟨_, rfl⟩
  obtain ⟨l2, g2⟩ : ∃ n, n = U.classes.length := ⟨_, rfl⟩
  obtain ⟨l3, g3⟩ : ∃ n, n = U.methods.length := ⟨_, rfl⟩
  obtain ⟨l4, g4⟩ : ∃ n, n = U.objects.length := ⟨_, rfl⟩
  obtain ⟨r1, g5⟩ : ∃ n, n = V.names.length := ⟨_, rfl⟩
  obtain ⟨r2, g6⟩ : ∃ n, n = V.classes.length := ⟨_, rfl⟩
  obtain ⟨r3, g7⟩ : ∃ n, n = V.methods.length := ⟨_, rfl⟩
  obtain ⟨r4, g8⟩ : ∃ n, n = V.objects.length := ⟨_, rfl⟩
  rw [← g1] at k1 v1 ⊢
  replace m1 := Nat.le_trans k1 m1
  rw [← g2] at k2 v2 ⊢
  replace m2 := Nat.le_trans k2 m2
  rw [← g3] at k3 v3 ⊢
  replace m3 := Nat.le_trans k3 m3
  rw [← g4] at k4 v4 ⊢
  replace m4 := Nat.le_trans k4 m4
  rw [← g5] at k5 v5 ⊢
  replace m5 := Nat.le_trans k5 m5
  rw [← g6] at k6 v6 ⊢
  replace m6 := Nat.le_trans k6 m6
  rw [← g7] at k7 v7 ⊢
  replace m7 := Nat.le_trans k7 m7
  rw [← g8] at k8 v8 ⊢
  replace m8 := Nat.le_trans k8 m8
  have hw1 := (Below.refl w.heap.size w).alloc (Nat.le_refl _) (.cells #[.slice na l1 nc, .slice ca l2 cc, .slice ma l3 mc, .slice oa l4 oc, .int .i64 U.main] 27)
  have hw2 := hw1.alloc (by simp only [World.size_alloc]; omega) (.cells #[.slice pa r1 pc, .slice qa r2 qc, .slice ra r3 rc, .slice sa r4 sc, .int .i64 V.main] 27)
  have i1 : (w.alloc (.cells #[.slice na l1 nc, .slice ca l2 cc, .slice ma l3 mc, .slice oa l4 oc, .int .i64 U.main] 27)).heap.size = w.heap.size + 1 := by simp
  have hS : Hid (S5 w ((w.alloc (.cells #[.slice na l1 nc, .slice ca l2 cc, .slice ma l3 mc, .slice oa l4 oc, .int .i64 U.main] 27)).alloc (.cells #[.slice pa r1 pc, .slice qa r2 qc, .slice ra r3 rc, .slice sa r4 sc, .int .i64 V.main] 27)) U V na nc ca cc ma mc oa oc pa pc qa qc ra rc sa sc l1 l2 l3 l4 r1 r2 r3 r4) := Lib.hid ⟨⟨(World.cell?_alloc_old _ _ _ (by simp)).trans (by simp), (World.cell?_alloc_old _ _ _ (by simp)).trans (by simp), (World.cell?_alloc_old _ _ _ (by simp)).trans (by simp), (World.cell?_alloc_old _ _ _ (by simp)).trans (by simp), (World.cell?_alloc_old _ _ _ (by simp)).trans (by simp), by rw [← i1]; simp, by rw [← i1]; simp, by rw [← i1]; simp, by rw [← i1]; simp, by rw [← i1]; simp⟩, ⟨v1.up hw2, v2.up hw2, v3.up hw2, v4.up hw2, v5.up hw2, v6.up hw2, v7.up hw2, v8.up hw2⟩, ⟨g1, g2, g3, g4, g5, g6, g7, g8⟩, ⟨m1, m2, m3, m4⟩, ⟨k1, k2, k3, k4, k5, k6, k7, k8⟩, hw2⟩
  have hmx : maxLen ≤ 9223372036854775807 := by decide
  have j1 : (l1 : Int) ≤ 9223372036854775807 := by omega
  have j2 : (l2 : Int) ≤ 9223372036854775807 := by omega
  have j3 : (l3 : Int) ≤ 9223372036854775807 := by omega
  have j4 : (l4 : Int) ≤ 9223372036854775807 := by omega
  clear hw1 hw2 i1 hmx g1 g2 g3 g4 g5 g6 g7 g8 k1 k2 k3 k4 k5 k6 k7 k8 m1 m2 m3 m4 m5 m6 m7 m8 v1 v2 v3 v4 v5 v6 v7 v8
  go_enter Tryz.func13, Tryz.ntmps13
  go_upto_region 1 with fail
  generalize ((w.alloc (.cells #[.slice na l1 nc, .slice ca l2 cc, .slice ma l3 mc, .slice oa l4 oc, .int .i64 U.main] 27)).alloc (.cells #[.slice pa r1 pc, .slice qa r2 qc, .slice ra r3 rc, .slice sa r4 sc, .int .i64 V.main] 27)) = W at *
  by_cases g1 : ¬ l1 = r1
  · as_aux_lemma =>
    have d1 : ((l1 : Int) != (r1 : Int)) = true := by simp; omega
    have e := Lib.hid (hS.out.no1 g1)
    clear g1
    obtain ⟨a0, a1, a2, a3, a4, a5, a6, a7, a8, a9⟩ := hS.out.cells
    go_wp2
    go_ret
    exact ⟨congrArg (fun b => Ending.returned (Value.bool b)) e.out.symm, hS.out.bel⟩
  replace g1 : l1 = r1 := Decidable.not_not.1 g1
  subst g1
  have d1 : ((l1 : Int) != (l1 : Int)) = false := by simp
  by_cases g2 : ¬ l2 = r2
  · as_aux_lemma =>
    have d2 : ((l2 : Int) != (r2 : Int)) = true := by simp; omega
    have e := Lib.hid (hS.out.no2 g2)
    clear g2
    obtain ⟨a0, a1, a2, a3, a4, a5, a6, a7, a8, a9⟩ := hS.out.cells
    go_wp2
    go_ret
    exact ⟨congrArg (fun b => Ending.returned (Value.bool b)) e.out.symm, hS.out.bel⟩
  replace g2 : l2 = r2 := Decidable.not_not.1 g2
  subst g2
  have d2 : ((l2 : Int) != (l2 : Int)) = false := by simp
  by_cases g3 : ¬ l3 = r3
  · as_aux_lemma =>
    have d3 : ((l3 : Int) != (r3 : Int)) = true := by simp; omega
    have e := Lib.hid (hS.out.no3 g3)
    clear g3
    obtain ⟨a0, a1, a2, a3, a4, a5, a6, a7, a8, a9⟩ := hS.out.cells
    go_wp2
    go_ret
    exact ⟨congrArg (fun b => Ending.returned (Value.bool b)) e.out.symm, hS.out.bel⟩
  replace g3 : l3 = r3 := Decidable.not_not.1 g3
  subst g3
  have d3 : ((l3 : Int) != (l3 : Int)) = false := by simp
  by_cases g4 : ¬ l4 = r4
  · as_aux_lemma =>
    have d4 : ((l4 : Int) != (r4 : Int)) = true := by simp; omega
    have e := Lib.hid (hS.out.no4 g4)
    clear g4
    obtain ⟨a0, a1, a2, a3, a4, a5, a6, a7, a8, a9⟩ := hS.out.cells
    go_wp2
    go_ret
    exact ⟨congrArg (fun b => Ending.returned (Value.bool b)) e.out.symm, hS.out.bel⟩
  replace g4 : l4 = r4 := Decidable.not_not.1 g4
  subst g4
  have d4 : ((l4 : Int) != (l4 : Int)) = false := by simp
  by_cases g5 : ¬ U.main = V.main
  · as_aux_lemma =>
    have d5 : (U.main != V.main) = true := by simpa using g5
    have e : Hid (sameU U V = false) := Lib.hid (sameU_ne (fun q => g5 (by rw [q])))
    clear g5
    obtain ⟨a0, a1, a2, a3, a4, a5, a6, a7, a8, a9⟩ := hS.out.cells
    go_wp2
    go_ret
    exact ⟨congrArg (fun b => Ending.returned (Value.bool b)) e.out.symm, hS.out.bel⟩
  replace g5 : U.main = V.main := Decidable.not_not.1 g5
  have g5h := Lib.hid g5
  have d5 : (U.main != V.main) = false := by simpa using g5
  clear g5
  obtain ⟨a0, a1, a2, a3, a4, a5, a6, a7, a8, a9⟩ := hS.out.cells
  have E1 := Lib.hid (EqR.start U.names V.names)
  have E2 := Lib.hid (EqR.start U.classes V.classes)
  have E3 := Lib.hid (EqR.start U.methods V.methods)
  have E4 := Lib.hid (EqR.start U.objects V.objects)
  go_wp2
  clear a0 a1 a2 a3 a4 a5 a6 a7 a8 a9
  go_loopw [55] (fun i wr => ∃ (k : Nat), k ≤ l1 ∧ i = .int .i64 k ∧ Hid (EqR U.names V.names k) ∧ Hid (S5 w wr U V na nc ca cc ma mc oa oc pa pc qa qc ra rc sa sc l1 l2 l3 l4 l1 l2 l3 l4)) (fun i _ => l1 - (intOf i).toNat)
  case atStart => exact ⟨0, by omega, rfl, E1, hS⟩
  case round =>
    clear hS E1
    obtain ⟨k, hk, rfl, hE, hS⟩ := hrel
    by_cases hlt : k < l1
    · as_aux_lemma =>
      have hlt' : decide ((k : Int) < (l1 : Int)) = true := by simp; omega
      have p0 : (0 : Int) ≤ (k : Int) := by omega
      have p1 : (k : Int) < (l1 : Int) := by omega
      obtain ⟨a0, a1, a2, a3, a4, a5, a6, a7, a8, a9⟩ := hS.out.cells
      obtain ⟨x, hx⟩ : ∃ x, U.names[k]? = some x := ⟨U.names[k]'(by obtain ⟨h1, h2, h3, h4, h5, h6, h7, h8⟩ := hS.out.lens; omega), by simp⟩
      obtain ⟨y, hy⟩ : ∃ y, V.names[k]? = some y := ⟨V.names[k]'(by obtain ⟨h1, h2, h3, h4, h5, h6, h7, h8⟩ := hS.out.lens; omega), by simp⟩
      obtain ⟨c1, c2, c3, c4, c5, c6, c7, c8⟩ := hS.out.caps
      obtain ⟨v1, v2, v3, v4, v5, v6, v7, v8⟩ := hS.out.views
      obtain ⟨g, off, rfl, d0⟩ := NmV.at v1 hx
      obtain ⟨g2, off2, rfl, d1⟩ := NmV.at v5 hy
      clear v1 v2 v3 v4 v5 v6 v7 v8
      go_upto_region 6 with fail
      by_cases he : x = y
      · as_aux_lemma =>
        have he' : (x.toList == y.toList) = true := bl_eq he
        have hE' := Lib.hid (hE.out.step hx hy he)
        replace hS := Lib.hid hS.out.drew
        clear hx hy he
        refine wp_region_still_lit (by kernel_rfl) (by kernel_rfl) ?_
        iterate 11 still_step
        refine wpStill_nil ?_
        change Exit.then _ _ Exit.normal _ wr.drew
        clear a0 a1 a2 a3 a4 a5 a6 a7 a8 a9 d0 d1
        go_wp2
        go_roundw
        case rel => exact ⟨k + 1, by omega, by go_num, hE', hS⟩
        case measure => simp [intOf]; omega
      · as_aux_lemma =>
        have he' : (x.toList == y.toList) = false := bl_ne he
        have e : Hid (sameU U V = false) := Lib.hid (sameU_no1 hx hy he)
        replace hS := Lib.hid hS.out.drew
        clear hx hy he hE
        refine wp_region_still_lit (by kernel_rfl) (by kernel_rfl) ?_
        iterate 11 still_step
        refine wpStill_nil ?_
        change Exit.then _ _ Exit.normal _ wr.drew
        clear a0 a1 a2 a3 a4 a5 a6 a7 a8 a9 d0 d1
        go_wp2
        go_ret
        exact ⟨congrArg (fun b => Ending.returned (Value.bool b)) e.out.symm, hS.out.bel⟩
    · as_aux_lemma =>
      have hlt' : decide ((k : Int) < (l1 : Int)) = false := by simp; omega
      have eqF : Hid (U.names = V.names) := Lib.hid (hE.out.all (by obtain ⟨h1, h2, h3, h4, h5, h6, h7, h8⟩ := hS.out.lens; omega) (by obtain ⟨h1, h2, h3, h4, h5, h6, h7, h8⟩ := hS.out.lens; omega))
      obtain ⟨a0, a1, a2, a3, a4, a5, a6, a7, a8, a9⟩ := hS.out.cells
      clear hE
      go_wp2
      clear a0 a1 a2 a3 a4 a5 a6 a7 a8 a9
      clear hlt hlt' hk
      have Q1 := Lib.hid eqF.out
      clear eqF
      go_loopw [73] (fun i wr => ∃ (k : Nat), k ≤ l2 ∧ i = .int .i64 k ∧ Hid (EqR U.classes V.classes k) ∧ Hid (S5 w wr U V na nc ca cc ma mc oa oc pa pc qa qc ra rc sa sc l1 l2 l3 l4 l1 l2 l3 l4)) (fun i _ => l2 - (intOf i).toNat)
      case atStart => exact ⟨0, by omega, rfl, E2, hS⟩
      case round =>
        clear hS E2
        obtain ⟨k, hk, rfl, hE, hS⟩ := hrel
        by_cases hlt : k < l2
        · as_aux_lemma =>
          have hlt' : decide ((k : Int) < (l2 : Int)) = true := by simp; omega
          have p0 : (0 : Int) ≤ (k : Int) := by omega
          have p1 : (k : Int) < (l2 : Int) := by omega
          obtain ⟨a0, a1, a2, a3, a4, a5, a6, a7, a8, a9⟩ := hS.out.cells
          obtain ⟨x, hx⟩ : ∃ x, U.classes[k]? = some x := ⟨U.classes[k]'(by obtain ⟨h1, h2, h3, h4, h5, h6, h7, h8⟩ := hS.out.lens; omega), by simp⟩
          obtain ⟨y, hy⟩ : ∃ y, V.classes[k]? = some y := ⟨V.classes[k]'(by obtain ⟨h1, h2, h3, h4, h5, h6, h7, h8⟩ := hS.out.lens; omega), by simp⟩
          obtain ⟨c1, c2, c3, c4, c5, c6, c7, c8⟩ := hS.out.caps
          obtain ⟨v1, v2, v3, v4, v5, v6, v7, v8⟩ := hS.out.views
          obtain ⟨_, _, g, off, bv, rfl, d0, d1, d2, d3, pb⟩ := ClV.at v2 hx
          obtain ⟨_, _, g2, off2, bv2, rfl, f0, f1, f2, f3, pb2⟩ := ClV.at v6 hy
          obtain ⟨ba, bc, rfl, _, _⟩ := pb.form
          obtain ⟨qb, qbc, rfl, _, _⟩ := pb2.form
          clear v1 v2 v3 v4 v5 v6 v7 v8
          have b0 := World.block_lt_of_cell? wr _ a1
          have b1 := World.block_lt_of_cell? wr _ a6
          have b2 := World.block_lt_of_cell? wr _ d0
          have b3 := World.block_lt_of_cell? wr _ f0
          go_upto_region 12 with fail
          go_region
          · as_aux_lemma =>
            have i1 : (wr.alloc (.cells #[.string x.nm, .int .i64 x.super, .int .i64 x.fields, .slice ba x.binds.length bc] 45)).heap.size = wr.heap.size + 1 := by simp
            have hbb : Below wr.heap.size wr ((wr.alloc (.cells #[.string x.nm, .int .i64 x.super, .int .i64 x.fields, .slice ba x.binds.length bc] 45)).alloc (.cells #[.string y.nm, .int .i64 y.super, .int .i64 y.fields, .slice qb y.binds.length qbc] 45)).drew := (((Below.refl _ _).alloc (Nat.le_refl _) (.cells #[.string x.nm, .int .i64 x.super, .int .i64 x.fields, .slice ba x.binds.length bc] 45)).alloc (by rw [i1]; omega) (.cells #[.string y.nm, .int .i64 y.super, .int .i64 y.fields, .slice qb y.binds.length qbc] 45)).drew
            have x0 : ((wr.alloc (.cells #[.string x.nm, .int .i64 x.super, .int .i64 x.fields, .slice ba x.binds.length bc] 45)).alloc (.cells #[.string y.nm, .int .i64 y.super, .int .i64 y.fields, .slice qb y.binds.length qbc] 45)).drew.cell? ⟨wr.heap.size, 0, none⟩ = some (.string x.nm) := (World.cell?_alloc_old (wr.alloc (.cells #[.string x.nm, .int .i64 x.super, .int .i64 x.fields, .slice ba x.binds.length bc] 45)) (.cells #[.string y.nm, .int .i64 y.super, .int .i64 y.fields, .slice qb y.binds.length qbc] 45) _ (by simp)).trans (by simp)
            have x1 : ((wr.alloc (.cells #[.string x.nm, .int .i64 x.super, .int .i64 x.fields, .slice ba x.binds.length bc] 45)).alloc (.cells #[.string y.nm, .int .i64 y.super, .int .i64 y.fields, .slice qb y.binds.length qbc] 45)).drew.cell? ⟨wr.heap.size, 1, none⟩ = some (.int .i64 x.super) := (World.cell?_alloc_old (wr.alloc (.cells #[.string x.nm, .int .i64 x.super, .int .i64 x.fields, .slice ba x.binds.length bc] 45)) (.cells #[.string y.nm, .int .i64 y.super, .int .i64 y.fields, .slice qb y.binds.length qbc] 45) _ (by simp)).trans (by simp)
            have x2 : ((wr.alloc (.cells #[.string x.nm, .int .i64 x.super, .int .i64 x.fields, .slice ba x.binds.length bc] 45)).alloc (.cells #[.string y.nm, .int .i64 y.super, .int .i64 y.fields, .slice qb y.binds.length qbc] 45)).drew.cell? ⟨wr.heap.size, 2, none⟩ = some (.int .i64 x.fields) := (World.cell?_alloc_old (wr.alloc (.cells #[.string x.nm, .int .i64 x.super, .int .i64 x.fields, .slice ba x.binds.length bc] 45)) (.cells #[.string y.nm, .int .i64 y.super, .int .i64 y.fields, .slice qb y.binds.length qbc] 45) _ (by simp)).trans (by simp)
            have x3 : ((wr.alloc (.cells #[.string x.nm, .int .i64 x.super, .int .i64 x.fields, .slice ba x.binds.length bc] 45)).alloc (.cells #[.string y.nm, .int .i64 y.super, .int .i64 y.fields, .slice qb y.binds.length qbc] 45)).drew.cell? ⟨wr.heap.size, 3, none⟩ = some (.slice ba x.binds.length bc) := (World.cell?_alloc_old (wr.alloc (.cells #[.string x.nm, .int .i64 x.super, .int .i64 x.fields, .slice ba x.binds.length bc] 45)) (.cells #[.string y.nm, .int .i64 y.super, .int .i64 y.fields, .slice qb y.binds.length qbc] 45) _ (by simp)).trans (by simp)
            have y0 : ((wr.alloc (.cells #[.string x.nm, .int .i64 x.super, .int .i64 x.fields, .slice ba x.binds.length bc] 45)).alloc (.cells #[.string y.nm, .int .i64 y.super, .int .i64 y.fields, .slice qb y.binds.length qbc] 45)).drew.cell? ⟨wr.heap.size + 1, 0, none⟩ = some (.string y.nm) := by
              rw [World.cell?_drew, ← i1]
              exact World.cell?_alloc_new _ _ _ 0
            have y1 : ((wr.alloc (.cells #[.string x.nm, .int .i64 x.super, .int .i64 x.fields, .slice ba x.binds.length bc] 45)).alloc (.cells #[.string y.nm, .int .i64 y.super, .int .i64 y.fields, .slice qb y.binds.length qbc] 45)).drew.cell? ⟨wr.heap.size + 1, 1, none⟩ = some (.int .i64 y.super) := by
              rw [World.cell?_drew, ← i1]
              exact World.cell?_alloc_new _ _ _ 1
            have y2 : ((wr.alloc (.cells #[.string x.nm, .int .i64 x.super, .int .i64 x.fields, .slice ba x.binds.length bc] 45)).alloc (.cells #[.string y.nm, .int .i64 y.super, .int .i64 y.fields, .slice qb y.binds.length qbc] 45)).drew.cell? ⟨wr.heap.size + 1, 2, none⟩ = some (.int .i64 y.fields) := by
              rw [World.cell?_drew, ← i1]
              exact World.cell?_alloc_new _ _ _ 2
            have y3 : ((wr.alloc (.cells #[.string x.nm, .int .i64 x.super, .int .i64 x.fields, .slice ba x.binds.length bc] 45)).alloc (.cells #[.string y.nm, .int .i64 y.super, .int .i64 y.fields, .slice qb y.binds.length qbc] 45)).drew.cell? ⟨wr.heap.size + 1, 3, none⟩ = some (.slice qb y.binds.length qbc) := by
              rw [World.cell?_drew, ← i1]
              exact World.cell?_alloc_new _ _ _ 3
            replace hS := Lib.hid (hS.out.up hbb)
            replace pb := pb.up hbb
            replace pb2 := pb2.up hbb
            clear i1 hbb a0 a1 a2 a3 a4 a5 a6 a7 a8 a9 d0 d1 d2 d3 f0 f1 f2 f3 b0 b1 b2 b3 p0 p1 c1 c2 c3 c4 c5 c6 c7 c8
            generalize ((wr.alloc (.cells #[.string x.nm, .int .i64 x.super, .int .i64 x.fields, .slice ba x.binds.length bc] 45)).alloc (.cells #[.string y.nm, .int .i64 y.super, .int .i64 y.fields, .slice qb y.binds.length qbc] 45)).drew = W3 at *
            as_aux_lemma =>
            by_cases h0 : ¬ x.nm = y.nm
            · as_aux_lemma =>
              have e : Hid (sameU U V = false) := Lib.hid (sameU_no2 hx hy (fun q => h0 (by rw [q])))
              have t0 : (x.nm.toList == y.nm.toList) = false := bl_ne h0
              clear h0 hx hy hE
              go_wp2
              go_ret
              exact ⟨congrArg (fun b => Ending.returned (Value.bool b)) e.out.symm, hS.out.bel⟩
            replace h0 : x.nm = y.nm := Decidable.not_not.1 h0
            have t0 : (x.nm.toList == y.nm.toList) = true := bl_eq h0
            by_cases h1 : ¬ x.super = y.super
            · as_aux_lemma =>
              have e : Hid (sameU U V = false) := Lib.hid (sameU_no2 hx hy (fun q => h1 (by rw [q])))
              have t1 : (x.super != y.super) = true := by simpa using h1
              clear h1 hx hy hE
              go_wp2
              go_ret
              exact ⟨congrArg (fun b => Ending.returned (Value.bool b)) e.out.symm, hS.out.bel⟩
            replace h1 : x.super = y.super := Decidable.not_not.1 h1
            have t1 : (x.super != y.super) = false := by simpa using h1
            by_cases h2 : ¬ x.fields = y.fields
            · as_aux_lemma =>
              have e : Hid (sameU U V = false) := Lib.hid (sameU_no2 hx hy (fun q => h2 (by rw [q])))
              have t2 : (x.fields != y.fields) = true := by simpa using h2
              clear h2 hx hy hE
              go_wp2
              go_ret
              exact ⟨congrArg (fun b => Ending.returned (Value.bool b)) e.out.symm, hS.out.bel⟩
            replace h2 : x.fields = y.fields := Decidable.not_not.1 h2
            have t2 : (x.fields != y.fields) = false := by simpa using h2
            have PB := rbinds_c pb pb2
            by_cases h3 : ¬ x.binds = y.binds
            · as_aux_lemma =>
              have e : Hid (sameU U V = false) := Lib.hid (sameU_no2 hx hy (fun q => h3 (by rw [q])))
              rw [decide_eq_false h3] at PB
              replace PB := Lib.hid PB
              clear h0 h1 h2 h3 hx hy hE pb pb2
              go_wp2_with fail
              refine PB.out.mono ?_
              rintro e1 w4 ⟨rfl, hb4⟩
              replace hS := Lib.hid (hS.out.up hb4)
              clear hb4 PB
              go_wp2
              go_ret
              exact ⟨congrArg (fun b => Ending.returned (Value.bool b)) e.out.symm, hS.out.bel⟩
            replace h3 : x.binds = y.binds := Decidable.not_not.1 h3
            rw [decide_eq_true h3] at PB
            replace PB := Lib.hid PB
            have hE' := Lib.hid (hE.out.step hx hy (by cases x; cases y; simp only at h0 h1 h2 h3; rw [h0, h1, h2, h3]))
            clear h0 h1 h2 h3 hx hy hE pb pb2
            go_wp2_with fail
            refine PB.out.mono ?_
            rintro e1 w4 ⟨rfl, hb4⟩
            replace hS := Lib.hid (hS.out.up hb4)
            clear hb4 PB x0 x1 x2 x3 y0 y1 y2 y3
            go_wp2
            go_roundw
            case rel => exact ⟨k + 1, by omega, by go_num, hE', hS⟩
            case measure => simp [intOf]; omega
          · as_aux_lemma =>
            have i1 : (wr.alloc (.cells #[.string y.nm, .int .i64 y.super, .int .i64 y.fields, .slice qb y.binds.length qbc] 45)).heap.size = wr.heap.size + 1 := by simp
            have hbb : Below wr.heap.size wr ((wr.alloc (.cells #[.string y.nm, .int .i64 y.super, .int .i64 y.fields, .slice qb y.binds.length qbc] 45)).alloc (.cells #[.string x.nm, .int .i64 x.super, .int .i64 x.fields, .slice ba x.binds.length bc] 45)).drew := (((Below.refl _ _).alloc (Nat.le_refl _) (.cells #[.string y.nm, .int .i64 y.super, .int .i64 y.fields, .slice qb y.binds.length qbc] 45)).alloc (by rw [i1]; omega) (.cells #[.string x.nm, .int .i64 x.super, .int .i64 x.fields, .slice ba x.binds.length bc] 45)).drew
            have x0 : ((wr.alloc (.cells #[.string y.nm, .int .i64 y.super, .int .i64 y.fields, .slice qb y.binds.length qbc] 45)).alloc (.cells #[.string x.nm, .int .i64 x.super, .int .i64 x.fields, .slice ba x.binds.length bc] 45)).drew.cell? ⟨wr.heap.size + 1, 0, none⟩ = some (.string x.nm) := by
              rw [World.cell?_drew, ← i1]
              exact World.cell?_alloc_new _ _ _ 0
            have x1 : ((wr.alloc (.cells #[.string y.nm, .int .i64 y.super, .int .i64 y.fields, .slice qb y.binds.length qbc] 45)).alloc (.cells #[.string x.nm, .int .i64 x.super, .int .i64 x.fields, .slice ba x.binds.length bc] 45)).drew.cell? ⟨wr.heap.size + 1, 1, none⟩ = some (.int .i64 x.super) := by
              rw [World.cell?_drew, ← i1]
              exact World.cell?_alloc_new _ _ _ 1
            have x2 : ((wr.alloc (.cells #[.string y.nm, .int .i64 y.super, .int .i64 y.fields, .slice qb y.binds.length qbc] 45)).alloc (.cells #[.string x.nm, .int .i64 x.super, .int .i64 x.fields, .slice ba x.binds.length bc] 45)).drew.cell? ⟨wr.heap.size + 1, 2, none⟩ = some (.int .i64 x.fields) := by
              rw [World.cell?_drew, ← i1]
              exact World.cell?_alloc_new _ _ _ 2
            have x3 : ((wr.alloc (.cells #[.string y.nm, .int .i64 y.super, .int .i64 y.fields, .slice qb y.binds.length qbc] 45)).alloc (.cells #[.string x.nm, .int .i64 x.super, .int .i64 x.fields, .slice ba x.binds.length bc] 45)).drew.cell? ⟨wr.heap.size + 1, 3, none⟩ = some (.slice ba x.binds.length bc) := by
              rw [World.cell?_drew, ← i1]
              exact World.cell?_alloc_new _ _ _ 3
            have y0 : ((wr.alloc (.cells #[.string y.nm, .int .i64 y.super, .int .i64 y.fields, .slice qb y.binds.length qbc] 45)).alloc (.cells #[.string x.nm, .int .i64 x.super, .int .i64 x.fields, .slice ba x.binds.length bc] 45)).drew.cell? ⟨wr.heap.size, 0, none⟩ = some (.string y.nm) := (World.cell?_alloc_old (wr.alloc (.cells #[.string y.nm, .int .i64 y.super, .int .i64 y.fields, .slice qb y.binds.length qbc] 45)) (.cells #[.string x.nm, .int .i64 x.super, .int .i64 x.fields, .slice ba x.binds.length bc] 45) _ (by simp)).trans (by simp)
            have y1 : ((wr.alloc (.cells #[.string y.nm, .int .i64 y.super, .int .i64 y.fields, .slice qb y.binds.length qbc] 45)).alloc (.cells #[.string x.nm, .int .i64 x.super, .int .i64 x.fields, .slice ba x.binds.length bc] 45)).drew.cell? ⟨wr.heap.size, 1, none⟩ = some (.int .i64 y.super) := (World.cell?_alloc_old (wr.alloc (.cells #[.string y.nm, .int .i64 y.super, .int .i64 y.fields, .slice qb y.binds.length qbc] 45)) (.cells #[.string x.nm, .int .i64 x.super, .int .i64 x.fields, .slice ba x.binds.length bc] 45) _ (by simp)).trans (by simp)
            have y2 : ((wr.alloc (.cells #[.string y.nm, .int .i64 y.super, .int .i64 y.fields, .slice qb y.binds.length qbc] 45)).alloc (.cells #[.string x.nm, .int .i64 x.super, .int .i64 x.fields, .slice ba x.binds.length bc] 45)).drew.cell? ⟨wr.heap.size, 2, none⟩ = some (.int .i64 y.fields) := (World.cell?_alloc_old (wr.alloc (.cells #[.string y.nm, .int .i64 y.super, .int .i64 y.fields, .slice qb y.binds.length qbc] 45)) (.cells #[.string x.nm, .int .i64 x.super, .int .i64 x.fields, .slice ba x.binds.length bc] 45) _ (by simp)).trans (by simp)
            have y3 : ((wr.alloc (.cells #[.string y.nm, .int .i64 y.super, .int .i64 y.fields, .slice qb y.binds.length qbc] 45)).alloc (.cells #[.string x.nm, .int .i64 x.super, .int .i64 x.fields, .slice ba x.binds.length bc] 45)).drew.cell? ⟨wr.heap.size, 3, none⟩ = some (.slice qb y.binds.length qbc) := (World.cell?_alloc_old (wr.alloc (.cells #[.string y.nm, .int .i64 y.super, .int .i64 y.fields, .slice qb y.binds.length qbc] 45)) (.cells #[.string x.nm, .int .i64 x.super, .int .i64 x.fields, .slice ba x.binds.length bc] 45) _ (by simp)).trans (by simp)
            replace hS := Lib.hid (hS.out.up hbb)
            replace pb := pb.up hbb
            replace pb2 := pb2.up hbb
            clear i1 hbb a0 a1 a2 a3 a4 a5 a6 a7 a8 a9 d0 d1 d2 d3 f0 f1 f2 f3 b0 b1 b2 b3 p0 p1 c1 c2 c3 c4 c5 c6 c7 c8
            generalize ((wr.alloc (.cells #[.string y.nm, .int .i64 y.super, .int .i64 y.fields, .slice qb y.binds.length qbc] 45)).alloc (.cells #[.string x.nm, .int .i64 x.super, .int .i64 x.fields, .slice ba x.binds.length bc] 45)).drew = W3 at *
            as_aux_lemma =>
            by_cases h0 : ¬ x.nm = y.nm
            · as_aux_lemma =>
              have e : Hid (sameU U V = false) := Lib.hid (sameU_no2 hx hy (fun q => h0 (by rw [q])))
              have t0 : (x.nm.toList == y.nm.toList) = false := bl_ne h0
              clear h0 hx hy hE
              go_wp2
              go_ret
              exact ⟨congrArg (fun b => Ending.returned (Value.bool b)) e.out.symm, hS.out.bel⟩
            replace h0 : x.nm = y.nm := Decidable.not_not.1 h0
            have t0 : (x.nm.toList == y.nm.toList) = true := bl_eq h0
            by_cases h1 : ¬ x.super = y.super
            · as_aux_lemma =>
              have e : Hid (sameU U V = false) := Lib.hid (sameU_no2 hx hy (fun q => h1 (by rw [q])))
              have t1 : (x.super != y.super) = true := by simpa using h1
              clear h1 hx hy hE
              go_wp2
              go_ret
              exact ⟨congrArg (fun b => Ending.returned (Value.bool b)) e.out.symm, hS.out.bel⟩
            replace h1 : x.super = y.super := Decidable.not_not.1 h1
            have t1 : (x.super != y.super) = false := by simpa using h1
            by_cases h2 : ¬ x.fields = y.fields
            · as_aux_lemma =>
              have e : Hid (sameU U V = false) := Lib.hid (sameU_no2 hx hy (fun q => h2 (by rw [q])))
              have t2 : (x.fields != y.fields) = true := by simpa using h2
              clear h2 hx hy hE
              go_wp2
              go_ret
              exact ⟨congrArg (fun b => Ending.returned (Value.bool b)) e.out.symm, hS.out.bel⟩
            replace h2 : x.fields = y.fields := Decidable.not_not.1 h2
            have t2 : (x.fields != y.fields) = false := by simpa using h2
            have PB := rbinds_c pb pb2
            by_cases h3 : ¬ x.binds = y.binds
            · as_aux_lemma =>
              have e : Hid (sameU U V = false) := Lib.hid (sameU_no2 hx hy (fun q => h3 (by rw [q])))
              rw [decide_eq_false h3] at PB
              replace PB := Lib.hid PB
              clear h0 h1 h2 h3 hx hy hE pb pb2
              go_wp2_with fail
              refine PB.out.mono ?_
              rintro e1 w4 ⟨rfl, hb4⟩
              replace hS := Lib.hid (hS.out.up hb4)
              clear hb4 PB
              go_wp2
              go_ret
              exact ⟨congrArg (fun b => Ending.returned (Value.bool b)) e.out.symm, hS.out.bel⟩
            replace h3 : x.binds = y.binds := Decidable.not_not.1 h3
            rw [decide_eq_true h3] at PB
            replace PB := Lib.hid PB
            have hE' := Lib.hid (hE.out.step hx hy (by cases x; cases y; simp only at h0 h1 h2 h3; rw [h0, h1, h2, h3]))
            clear h0 h1 h2 h3 hx hy hE pb pb2
            go_wp2_with fail
            refine PB.out.mono ?_
            rintro e1 w4 ⟨rfl, hb4⟩
            replace hS := Lib.hid (hS.out.up hb4)
            clear hb4 PB x0 x1 x2 x3 y0 y1 y2 y3
            go_wp2
            go_roundw
            case rel => exact ⟨k + 1, by omega, by go_num, hE', hS⟩
            case measure => simp [intOf]; omega
        · as_aux_lemma =>
          have hlt' : decide ((k : Int) < (l2 : Int)) = false := by simp; omega
          have eqF : Hid (U.classes = V.classes) := Lib.hid (hE.out.all (by obtain ⟨h1, h2, h3, h4, h5, h6, h7, h8⟩ := hS.out.lens; omega) (by obtain ⟨h1, h2, h3, h4, h5, h6, h7, h8⟩ := hS.out.lens; omega))
          obtain ⟨a0, a1, a2, a3, a4, a5, a6, a7, a8, a9⟩ := hS.out.cells
          clear hE
          go_wp2
          clear a0 a1 a2 a3 a4 a5 a6 a7 a8 a9
          clear hlt hlt' hk
          have Q2 := Lib.hid eqF.out
          clear eqF
          go_loopw [117] (fun i wr => ∃ (k : Nat), k ≤ l3 ∧ i = .int .i64 k ∧ Hid (EqR U.methods V.methods k) ∧ Hid (S5 w wr U V na nc ca cc ma mc oa oc pa pc qa qc ra rc sa sc l1 l2 l3 l4 l1 l2 l3 l4)) (fun i _ => l3 - (intOf i).toNat)
          case atStart => exact ⟨0, by omega, rfl, E3, hS⟩
          case round =>
            clear hS E3
            obtain ⟨k, hk, rfl, hE, hS⟩ := hrel
            by_cases hlt : k < l3
            · as_aux_lemma =>
              have hlt' : decide ((k : Int) < (l3 : Int)) = true := by simp; omega
              have p0 : (0 : Int) ≤ (k : Int) := by omega
              have p1 : (k : Int) < (l3 : Int) := by omega
              obtain ⟨a0, a1, a2, a3, a4, a5, a6, a7, a8, a9⟩ := hS.out.cells
              obtain ⟨x, hx⟩ : ∃ x, U.methods[k]? = some x := ⟨U.methods[k]'(by obtain ⟨h1, h2, h3, h4, h5, h6, h7, h8⟩ := hS.out.lens; omega), by simp⟩
              obtain ⟨y, hy⟩ : ∃ y, V.methods[k]? = some y := ⟨V.methods[k]'(by obtain ⟨h1, h2, h3, h4, h5, h6, h7, h8⟩ := hS.out.lens; omega), by simp⟩
              obtain ⟨c1, c2, c3, c4, c5, c6, c7, c8⟩ := hS.out.caps
              obtain ⟨v1, v2, v3, v4, v5, v6, v7, v8⟩ := hS.out.views
              obtain ⟨g, off, xa, xc, xb, xd, rfl, d0, d1, d2, d3, pm⟩ := MtV.at v3 hx
              obtain ⟨g2, off2, ya, yc, yb, yd, rfl, f0, f1, f2, f3, pm2⟩ := MtV.at v7 hy
              clear v1 v2 v3 v4 v5 v6 v7 v8
              go_upto_region 19 with fail
              have PB := rsamem_c (pm.up (Below.refl wr.heap.size wr).drew) (pm2.up (Below.refl wr.heap.size wr).drew)
              rw [methEq_iff] at PB
              have hSd := hS.out.drew
              refine wp_region_still_tail 10 (by kernel_rfl) (by kernel_rfl) ?_
              simp only [List.take_succ_cons, List.take_zero, List.drop_succ_cons, List.drop_zero]
              iterate 10 still_step
              refine wpStill_nil ?_
              change wpList _ _ _ _ _ wr.drew
              replace hS := Lib.hid hSd
              clear hSd pm pm2
              generalize wr.drew = W3 at *
              by_cases he : x = y
              · as_aux_lemma =>
                rw [decide_eq_true he] at PB
                replace PB := Lib.hid PB
                have hE' := Lib.hid (hE.out.step hx hy he)
                clear hx hy he hE a0 a1 a2 a3 a4 a5 a6 a7 a8 a9 d0 d1 d2 d3 f0 f1 f2 f3
                go_wp2_with fail
                refine PB.out.mono ?_
                rintro e1 w4 ⟨rfl, hb4⟩
                replace hS := Lib.hid (hS.out.up hb4)
                clear hb4 PB
                go_wp2
                go_roundw
                case rel => exact ⟨k + 1, by omega, by go_num, hE', hS⟩
                case measure => simp [intOf]; omega
              · as_aux_lemma =>
                have e : Hid (sameU U V = false) := Lib.hid (sameU_no3 hx hy he)
                rw [decide_eq_false he] at PB
                replace PB := Lib.hid PB
                clear hx hy he hE a0 a1 a2 a3 a4 a5 a6 a7 a8 a9 d0 d1 d2 d3 f0 f1 f2 f3
                go_wp2_with fail
                refine PB.out.mono ?_
                rintro e1 w4 ⟨rfl, hb4⟩
                replace hS := Lib.hid (hS.out.up hb4)
                clear hb4 PB
                go_wp2
                go_ret
                exact ⟨congrArg (fun b => Ending.returned (Value.bool b)) e.out.symm, hS.out.bel⟩
            · as_aux_lemma =>
              have hlt' : decide ((k : Int) < (l3 : Int)) = false := by simp; omega
              have eqF : Hid (U.methods = V.methods) := Lib.hid (hE.out.all (by obtain ⟨h1, h2, h3, h4, h5, h6, h7, h8⟩ := hS.out.lens; omega) (by obtain ⟨h1, h2, h3, h4, h5, h6, h7, h8⟩ := hS.out.lens; omega))
              obtain ⟨a0, a1, a2, a3, a4, a5, a6, a7, a8, a9⟩ := hS.out.cells
              clear hE
              go_wp2
              clear a0 a1 a2 a3 a4 a5 a6 a7 a8 a9
              clear hlt hlt' hk
              have Q3 := Lib.hid eqF.out
              clear eqF
              go_loopw [136] (fun i wr => ∃ (k : Nat), k ≤ l4 ∧ i = .int .i64 k ∧ Hid (EqR U.objects V.objects k) ∧ Hid (S5 w wr U V na nc ca cc ma mc oa oc pa pc qa qc ra rc sa sc l1 l2 l3 l4 l1 l2 l3 l4)) (fun i _ => l4 - (intOf i).toNat)
              case atStart => exact ⟨0, by omega, rfl, E4, hS⟩
              case round =>
                clear hS E4
                obtain ⟨k, hk, rfl, hE, hS⟩ := hrel
                by_cases hlt : k < l4
                · as_aux_lemma =>
                  have hlt' : decide ((k : Int) < (l4 : Int)) = true := by simp; omega
                  have p0 : (0 : Int) ≤ (k : Int) := by omega
                  have p1 : (k : Int) < (l4 : Int) := by omega
                  obtain ⟨a0, a1, a2, a3, a4, a5, a6, a7, a8, a9⟩ := hS.out.cells
                  obtain ⟨x, hx⟩ : ∃ x, U.objects[k]? = some x := ⟨U.objects[k]'(by obtain ⟨h1, h2, h3, h4, h5, h6, h7, h8⟩ := hS.out.lens; omega), by simp⟩
                  obtain ⟨y, hy⟩ : ∃ y, V.objects[k]? = some y := ⟨V.objects[k]'(by obtain ⟨h1, h2, h3, h4, h5, h6, h7, h8⟩ := hS.out.lens; omega), by simp⟩
                  obtain ⟨c1, c2, c3, c4, c5, c6, c7, c8⟩ := hS.out.caps
                  obtain ⟨v1, v2, v3, v4, v5, v6, v7, v8⟩ := hS.out.views
                  obtain ⟨_, g, off, fv, rfl, d0, d1, pf⟩ := ObV.at v4 hx
                  obtain ⟨_, g2, off2, fv2, rfl, f0, f1, pf2⟩ := ObV.at v8 hy
                  clear v1 v2 v3 v4 v5 v6 v7 v8
                  go_upto_region 25 with fail
                  clear a0 a1 a2 a4 a5 a6 a7 a9
                  by_cases h0 : ¬ x.cls = y.cls
                  · as_aux_lemma =>
                    have e : Hid (sameU U V = false) := Lib.hid (sameU_no4 hx hy (fun q => h0 (by rw [q])))
                    have t0 : (x.cls != y.cls) = true := by simpa using h0
                    replace hS := Lib.hid hS.out.drew
                    clear hx hy h0 hE pf pf2
                    refine wp_region_held_drew (S := (fun wr' => wr'.cell? ⟨w.heap.size, 3, none⟩ = some (.slice (some ⟨g, off, none⟩) l4 oc) ∧ wr'.cell? ⟨w.heap.size + 1, 3, none⟩ = some (.slice (some ⟨g2, off2, none⟩) l4 sc) ∧ wr'.cell? ⟨g, off + k * 2, none⟩ = some (.int .i64 x.cls) ∧ wr'.cell? ⟨g, off + k * 2 + 1, none⟩ = some fv ∧ wr'.cell? ⟨g2, off2 + k * 2, none⟩ = some (.int .i64 y.cls) ∧ wr'.cell? ⟨g2, off2 + k * 2 + 1, none⟩ = some fv2)) (by kernel_rfl) ?_ (fun hHeld => ?_)
                    · (try dsimp only); exact ⟨a3, a8, d0, d1, f0, f1⟩
                    try simp only [Act.put, nA]
                    refine tk (i := 0) (oi := ⟨some 139, .fieldAddr 27 (.tmp 2) 3, 0, "ref.go:245", #[], none⟩) ?_
                    try simp only [Act.put, nA]
                    refine tk (i := 1) (oi := ⟨some 140, .load 25 (.tmp 139), 25, "ref.go:245", #[⟨0, .data⟩], none⟩) ?_
                    try simp only [Act.put, nA]
                    refine tk (i := 2) (oi := ⟨some 141, .move (.tmp 10), 3, "ref.go:245", #[], none⟩) ?_
                    try simp only [Act.put, nA]
                    refine tk (i := 3) (oi := ⟨some 142, .indexAddr 25 (.tmp 140) (.tmp 141), 0, "ref.go:245", #[⟨1, .data⟩, ⟨2, .data⟩], none⟩) ?_
                    try simp only [Act.put, nA]
                    refine tk (i := 4) (oi := ⟨some 143, .fieldAddr 55 (.tmp 142) 0, 0, "ref.go:245", #[⟨3, .data⟩], none⟩) ?_
                    try simp only [Act.put, nA]
                    refine tk (i := 5) (oi := ⟨some 144, .load 3 (.tmp 143), 3, "ref.go:245", #[⟨4, .data⟩], none⟩) ?_
                    try simp only [Act.put, nA]
                    refine tk (i := 6) (oi := ⟨some 145, .fieldAddr 27 (.tmp 3) 3, 0, "ref.go:245", #[], none⟩) ?_
                    try simp only [Act.put, nA]
                    refine tk (i := 7) (oi := ⟨some 146, .load 25 (.tmp 145), 25, "ref.go:245", #[⟨6, .data⟩], none⟩) ?_
                    try simp only [Act.put, nA]
                    refine tk (i := 8) (oi := ⟨some 147, .move (.tmp 10), 3, "ref.go:245", #[], none⟩) ?_
                    try simp only [Act.put, nA]
                    refine tk (i := 9) (oi := ⟨some 148, .indexAddr 25 (.tmp 146) (.tmp 147), 0, "ref.go:245", #[⟨7, .data⟩, ⟨8, .data⟩], none⟩) ?_
                    try simp only [Act.put, nA]
                    refine tk (i := 10) (oi := ⟨some 149, .fieldAddr 55 (.tmp 148) 0, 0, "ref.go:245", #[⟨9, .data⟩], none⟩) ?_
                    try simp only [Act.put, nA]
                    refine tk (i := 11) (oi := ⟨some 150, .load 3 (.tmp 149), 3, "ref.go:245", #[⟨10, .data⟩], none⟩) ?_
                    try simp only [Act.put, nA]
                    refine tk (i := 12) (oi := ⟨some 151, .binOp .neq 3 (.tmp 144) (.tmp 150) 3, 4, "ref.go:245", #[⟨5, .data⟩, ⟨11, .data⟩], none⟩) ?_
                    try simp only [Act.put, nA]
                    refine tk (i := 13) (oi := ⟨some 152, .move (.tmp 151), 4, "ref.go:245", #[⟨12, .data⟩], none⟩) ?_
                    try simp only [Act.put, nA]
                    refine tu (i := 14) (oi := ⟨some 153, .fieldAddr 27 (.tmp 2) 3, 0, "ref.go:245", #[⟨13, .guard⟩], some (13, false)⟩) ?_
                    try simp only [Act.put, nA]
                    refine tu (i := 15) (oi := ⟨some 154, .load 25 (.tmp 153), 25, "ref.go:245", #[⟨14, .data⟩, ⟨13, .guard⟩], some (13, false)⟩) ?_
                    try simp only [Act.put, nA]
                    refine tu (i := 16) (oi := ⟨some 155, .move (.tmp 10), 3, "ref.go:245", #[⟨13, .guard⟩], some (13, false)⟩) ?_
                    try simp only [Act.put, nA]
                    refine tu (i := 17) (oi := ⟨some 156, .indexAddr 25 (.tmp 154) (.tmp 155), 0, "ref.go:245", #[⟨15, .data⟩, ⟨16, .data⟩, ⟨13, .guard⟩], some (13, false)⟩) ?_
                    try simp only [Act.put, nA]
                    refine tu (i := 18) (oi := ⟨some 157, .fieldAddr 55 (.tmp 156) 1, 0, "ref.go:245", #[⟨17, .data⟩, ⟨13, .guard⟩], some (13, false)⟩) ?_
                    try simp only [Act.put, nA]
                    refine tu (i := 19) (oi := ⟨some 158, .load 47 (.tmp 157), 47, "ref.go:245", #[⟨18, .data⟩, ⟨13, .guard⟩], some (13, false)⟩) ?_
                    try simp only [Act.put, nA]
                    refine tu (i := 20) (oi := ⟨some 159, .fieldAddr 27 (.tmp 3) 3, 0, "ref.go:245", #[⟨13, .guard⟩], some (13, false)⟩) ?_
                    try simp only [Act.put, nA]
                    refine tu (i := 21) (oi := ⟨some 160, .load 25 (.tmp 159), 25, "ref.go:245", #[⟨20, .data⟩, ⟨13, .guard⟩], some (13, false)⟩) ?_
                    try simp only [Act.put, nA]
                    refine tu (i := 22) (oi := ⟨some 161, .move (.tmp 10), 3, "ref.go:245", #[⟨13, .guard⟩], some (13, false)⟩) ?_
                    try simp only [Act.put, nA]
                    refine tu (i := 23) (oi := ⟨some 162, .indexAddr 25 (.tmp 160) (.tmp 161), 0, "ref.go:245", #[⟨21, .data⟩, ⟨22, .data⟩, ⟨13, .guard⟩], some (13, false)⟩) ?_
                    try simp only [Act.put, nA]
                    refine tu (i := 24) (oi := ⟨some 163, .fieldAddr 55 (.tmp 162) 1, 0, "ref.go:245", #[⟨23, .data⟩, ⟨13, .guard⟩], some (13, false)⟩) ?_
                    try simp only [Act.put, nA]
                    refine tu (i := 25) (oi := ⟨some 164, .load 47 (.tmp 163), 47, "ref.go:245", #[⟨24, .data⟩, ⟨13, .guard⟩], some (13, false)⟩) ?_
                    try simp only [Act.put, nA]
                    refine tu (i := 26) (oi := ⟨some 165, .call { callee := .value (.func 40), args := #[.tmp 158, .tmp 164], argTypes := #[47, 47] }, 4, "ref.go:245", #[⟨19, .data⟩, ⟨25, .data⟩, ⟨13, .chain⟩, ⟨13, .guard⟩], some (13, false)⟩) ?_
                    try simp only [Act.put, nA]
                    refine tu (i := 27) (oi := ⟨some 166, .unOp .not 4 (.tmp 165), 4, "ref.go:245", #[⟨26, .data⟩, ⟨13, .guard⟩], some (13, false)⟩) ?_
                    try simp only [Act.put, nA]
                    refine tk (i := 28) (oi := ⟨some 167, .pick (.tmp 152) (.const (.bool true)) (.tmp 166), 4, "ref.go:245", #[⟨13, .data⟩, ⟨27, .data⟩], none⟩) ?_
                    try simp only [Act.put, nA]
                    refine wpAnyH_done (by kernel_rfl) ?_ _
                    go_wp2
                    go_ret
                    exact ⟨congrArg (fun b => Ending.returned (Value.bool b)) e.out.symm, hS.out.bel⟩
                  replace h0 : x.cls = y.cls := Decidable.not_not.1 h0
                  have t0 : (x.cls != y.cls) = false := by simpa using h0
                  have PB := rvals_c (pf.up (Below.refl wr.heap.size wr).drew) (pf2.up (Below.refl wr.heap.size wr).drew)
                  replace hS := Lib.hid hS.out.drew
                  clear pf pf2
                  by_cases he : x.flds = y.flds
                  · as_aux_lemma =>
                    rw [decide_eq_true he] at PB
                    replace PB := Lib.hid PB
                    have hE' := Lib.hid (hE.out.step hx hy (by cases x; cases y; simp only at h0 he; rw [h0, he]))
                    clear hx hy he hE h0
                    refine wp_region_held_drew (S := (fun wr' => wr'.cell? ⟨w.heap.size, 3, none⟩ = some (.slice (some ⟨g, off, none⟩) l4 oc) ∧ wr'.cell? ⟨w.heap.size + 1, 3, none⟩ = some (.slice (some ⟨g2, off2, none⟩) l4 sc) ∧ wr'.cell? ⟨g, off + k * 2, none⟩ = some (.int .i64 x.cls) ∧ wr'.cell? ⟨g, off + k * 2 + 1, none⟩ = some fv ∧ wr'.cell? ⟨g2, off2 + k * 2, none⟩ = some (.int .i64 y.cls) ∧ wr'.cell? ⟨g2, off2 + k * 2 + 1, none⟩ = some fv2)) (by kernel_rfl) ?_ (fun hHeld => ?_)
                    · (try dsimp only); exact ⟨a3, a8, d0, d1, f0, f1⟩
                    try simp only [Act.put, nA]
                    refine tk (i := 0) (oi := ⟨some 139, .fieldAddr 27 (.tmp 2) 3, 0, "ref.go:245", #[], none⟩) ?_
                    try simp only [Act.put, nA]
                    refine tk (i := 1) (oi := ⟨some 140, .load 25 (.tmp 139), 25, "ref.go:245", #[⟨0, .data⟩], none⟩) ?_
                    try simp only [Act.put, nA]
                    refine tk (i := 2) (oi := ⟨some 141, .move (.tmp 10), 3, "ref.go:245", #[], none⟩) ?_
                    try simp only [Act.put, nA]
                    refine tk (i := 3) (oi := ⟨some 142, .indexAddr 25 (.tmp 140) (.tmp 141), 0, "ref.go:245", #[⟨1, .data⟩, ⟨2, .data⟩], none⟩) ?_
                    try simp only [Act.put, nA]
                    refine tk (i := 4) (oi := ⟨some 143, .fieldAddr 55 (.tmp 142) 0, 0, "ref.go:245", #[⟨3, .data⟩], none⟩) ?_
                    try simp only [Act.put, nA]
                    refine tk (i := 5) (oi := ⟨some 144, .load 3 (.tmp 143), 3, "ref.go:245", #[⟨4, .data⟩], none⟩) ?_
                    try simp only [Act.put, nA]
                    refine tk (i := 6) (oi := ⟨some 145, .fieldAddr 27 (.tmp 3) 3, 0, "ref.go:245", #[], none⟩) ?_
                    try simp only [Act.put, nA]
                    refine tk (i := 7) (oi := ⟨some 146, .load 25 (.tmp 145), 25, "ref.go:245", #[⟨6, .data⟩], none⟩) ?_
                    try simp only [Act.put, nA]
                    refine tk (i := 8) (oi := ⟨some 147, .move (.tmp 10), 3, "ref.go:245", #[], none⟩) ?_
                    try simp only [Act.put, nA]
                    refine tk (i := 9) (oi := ⟨some 148, .indexAddr 25 (.tmp 146) (.tmp 147), 0, "ref.go:245", #[⟨7, .data⟩, ⟨8, .data⟩], none⟩) ?_
                    try simp only [Act.put, nA]
                    refine tk (i := 10) (oi := ⟨some 149, .fieldAddr 55 (.tmp 148) 0, 0, "ref.go:245", #[⟨9, .data⟩], none⟩) ?_
                    try simp only [Act.put, nA]
                    refine tk (i := 11) (oi := ⟨some 150, .load 3 (.tmp 149), 3, "ref.go:245", #[⟨10, .data⟩], none⟩) ?_
                    try simp only [Act.put, nA]
                    refine tk (i := 12) (oi := ⟨some 151, .binOp .neq 3 (.tmp 144) (.tmp 150) 3, 4, "ref.go:245", #[⟨5, .data⟩, ⟨11, .data⟩], none⟩) ?_
                    try simp only [Act.put, nA]
                    refine tk (i := 13) (oi := ⟨some 152, .move (.tmp 151), 4, "ref.go:245", #[⟨12, .data⟩], none⟩) ?_
                    try simp only [Act.put, nA]
                    refine tk (i := 14) (oi := ⟨some 153, .fieldAddr 27 (.tmp 2) 3, 0, "ref.go:245", #[⟨13, .guard⟩], some (13, false)⟩) ?_
                    try simp only [Act.put, nA]
                    refine tk (i := 15) (oi := ⟨some 154, .load 25 (.tmp 153), 25, "ref.go:245", #[⟨14, .data⟩, ⟨13, .guard⟩], some (13, false)⟩) ?_
                    try simp only [Act.put, nA]
                    refine tk (i := 16) (oi := ⟨some 155, .move (.tmp 10), 3, "ref.go:245", #[⟨13, .guard⟩], some (13, false)⟩) ?_
                    try simp only [Act.put, nA]
                    refine tk (i := 17) (oi := ⟨some 156, .indexAddr 25 (.tmp 154) (.tmp 155), 0, "ref.go:245", #[⟨15, .data⟩, ⟨16, .data⟩, ⟨13, .guard⟩], some (13, false)⟩) ?_
                    try simp only [Act.put, nA]
                    refine tk (i := 18) (oi := ⟨some 157, .fieldAddr 55 (.tmp 156) 1, 0, "ref.go:245", #[⟨17, .data⟩, ⟨13, .guard⟩], some (13, false)⟩) ?_
                    try simp only [Act.put, nA]
                    refine tk (i := 19) (oi := ⟨some 158, .load 47 (.tmp 157), 47, "ref.go:245", #[⟨18, .data⟩, ⟨13, .guard⟩], some (13, false)⟩) ?_
                    try simp only [Act.put, nA]
                    refine tk (i := 20) (oi := ⟨some 159, .fieldAddr 27 (.tmp 3) 3, 0, "ref.go:245", #[⟨13, .guard⟩], some (13, false)⟩) ?_
                    try simp only [Act.put, nA]
                    refine tk (i := 21) (oi := ⟨some 160, .load 25 (.tmp 159), 25, "ref.go:245", #[⟨20, .data⟩, ⟨13, .guard⟩], some (13, false)⟩) ?_
                    try simp only [Act.put, nA]
                    refine tk (i := 22) (oi := ⟨some 161, .move (.tmp 10), 3, "ref.go:245", #[⟨13, .guard⟩], some (13, false)⟩) ?_
                    try simp only [Act.put, nA]
                    refine tk (i := 23) (oi := ⟨some 162, .indexAddr 25 (.tmp 160) (.tmp 161), 0, "ref.go:245", #[⟨21, .data⟩, ⟨22, .data⟩, ⟨13, .guard⟩], some (13, false)⟩) ?_
                    try simp only [Act.put, nA]
                    refine tk (i := 24) (oi := ⟨some 163, .fieldAddr 55 (.tmp 162) 1, 0, "ref.go:245", #[⟨23, .data⟩, ⟨13, .guard⟩], some (13, false)⟩) ?_
                    try simp only [Act.put, nA]
                    refine tk (i := 25) (oi := ⟨some 164, .load 47 (.tmp 163), 47, "ref.go:245", #[⟨24, .data⟩, ⟨13, .guard⟩], some (13, false)⟩) ?_
                    try simp only [Act.put, nA]
                    refine wpAnyH_ready (rs := [26]) (by kernel_rfl) (by simp) ?_
                    refine AllReadyH.cons (o := ⟨some 165, .call { callee := .value (.func 40), args := #[.tmp 158, .tmp 164], argTypes := #[47, 47] }, 4, "ref.go:245", #[⟨19, .data⟩, ⟨25, .data⟩, ⟨13, .chain⟩, ⟨13, .guard⟩], some (13, false)⟩) rfl (fun K9 hK => ?_) ?_
                    · go_simp
                      with_reducible refine (PB.out).mono ?_
                      rintro e1 w4 ⟨rfl, hb4⟩
                      have hq9 := Lib.hid (And.intro (cell_up hb4 a3) (And.intro (cell_up hb4 a8) (And.intro (cell_up hb4 d0) (And.intro (cell_up hb4 d1) (And.intro (cell_up hb4 f0) (cell_up hb4 f1))))))
                      replace hS := Lib.hid (hS.out.up hb4)
                      clear hb4 PB a3 a8 d0 d1 f0 f1
                      go_wp2_with fail
                      refine hK.out _ _ ?_ ?_
                      · (try dsimp only); exact hq9.out
                      clear hK K9 hHeld; intro hHeld
                      try simp only [Act.put, nA]
                      refine tk (i := 27) (oi := ⟨some 166, .unOp .not 4 (.tmp 165), 4, "ref.go:245", #[⟨26, .data⟩, ⟨13, .guard⟩], some (13, false)⟩) ?_
                      try simp only [Act.put, nA]
                      refine tk (i := 28) (oi := ⟨some 167, .pick (.tmp 152) (.const (.bool true)) (.tmp 166), 4, "ref.go:245", #[⟨13, .data⟩, ⟨27, .data⟩], none⟩) ?_
                      try simp only [Act.put, nA]
                      refine wpAnyH_done (by kernel_rfl) ?_ _
                      go_wp2
                      go_roundw
                      case rel => exact ⟨k + 1, by omega, by go_num, hE', hS⟩
                      case measure => simp [intOf]; omega
                    exact AllReadyH.nil
                  · as_aux_lemma =>
                    have e : Hid (sameU U V = false) := Lib.hid (sameU_no4 hx hy (fun q => he (by rw [q])))
                    rw [decide_eq_false he] at PB
                    replace PB := Lib.hid PB
                    clear hx hy he hE h0
                    refine wp_region_held_drew (S := (fun wr' => wr'.cell? ⟨w.heap.size, 3, none⟩ = some (.slice (some ⟨g, off, none⟩) l4 oc) ∧ wr'.cell? ⟨w.heap.size + 1, 3, none⟩ = some (.slice (some ⟨g2, off2, none⟩) l4 sc) ∧ wr'.cell? ⟨g, off + k * 2, none⟩ = some (.int .i64 x.cls) ∧ wr'.cell? ⟨g, off + k * 2 + 1, none⟩ = some fv ∧ wr'.cell? ⟨g2, off2 + k * 2, none⟩ = some (.int .i64 y.cls) ∧ wr'.cell? ⟨g2, off2 + k * 2 + 1, none⟩ = some fv2)) (by kernel_rfl) ?_ (fun hHeld => ?_)
                    · (try dsimp only); exact ⟨a3, a8, d0, d1, f0, f1⟩
                    try simp only [Act.put, nA]
                    refine tk (i := 0) (oi := ⟨some 139, .fieldAddr 27 (.tmp 2) 3, 0, "ref.go:245", #[], none⟩) ?_
                    try simp only [Act.put, nA]
                    refine tk (i := 1) (oi := ⟨some 140, .load 25 (.tmp 139), 25, "ref.go:245", #[⟨0, .data⟩], none⟩) ?_
                    try simp only [Act.put, nA]
                    refine tk (i := 2) (oi := ⟨some 141, .move (.tmp 10), 3, "ref.go:245", #[], none⟩) ?_
                    try simp only [Act.put, nA]
                    refine tk (i := 3) (oi := ⟨some 142, .indexAddr 25 (.tmp 140) (.tmp 141), 0, "ref.go:245", #[⟨1, .data⟩, ⟨2, .data⟩], none⟩) ?_
                    try simp only [Act.put, nA]
                    refine tk (i := 4) (oi := ⟨some 143, .fieldAddr 55 (.tmp 142) 0, 0, "ref.go:245", #[⟨3, .data⟩], none⟩) ?_
                    try simp only [Act.put, nA]
                    refine tk (i := 5) (oi := ⟨some 144, .load 3 (.tmp 143), 3, "ref.go:245", #[⟨4, .data⟩], none⟩) ?_
                    try simp only [Act.put, nA]
                    refine tk (i := 6) (oi := ⟨some 145, .fieldAddr 27 (.tmp 3) 3, 0, "ref.go:245", #[], none⟩) ?_
                    try simp only [Act.put, nA]
                    refine tk (i := 7) (oi := ⟨some 146, .load 25 (.tmp 145), 25, "ref.go:245", #[⟨6, .data⟩], none⟩) ?_
                    try simp only [Act.put, nA]
                    refine tk (i := 8) (oi := ⟨some 147, .move (.tmp 10), 3, "ref.go:245", #[], none⟩) ?_
                    try simp only [Act.put, nA]
                    refine tk (i := 9) (oi := ⟨some 148, .indexAddr 25 (.tmp 146) (.tmp 147), 0, "ref.go:245", #[⟨7, .data⟩, ⟨8, .data⟩], none⟩) ?_
                    try simp only [Act.put, nA]
                    refine tk (i := 10) (oi := ⟨some 149, .fieldAddr 55 (.tmp 148) 0, 0, "ref.go:245", #[⟨9, .data⟩], none⟩) ?_
                    try simp only [Act.put, nA]
                    refine tk (i := 11) (oi := ⟨some 150, .load 3 (.tmp 149), 3, "ref.go:245", #[⟨10, .data⟩], none⟩) ?_
                    try simp only [Act.put, nA]
                    refine tk (i := 12) (oi := ⟨some 151, .binOp .neq 3 (.tmp 144) (.tmp 150) 3, 4, "ref.go:245", #[⟨5, .data⟩, ⟨11, .data⟩], none⟩) ?_
                    try simp only [Act.put, nA]
                    refine tk (i := 13) (oi := ⟨some 152, .move (.tmp 151), 4, "ref.go:245", #[⟨12, .data⟩], none⟩) ?_
                    try simp only [Act.put, nA]
                    refine tk (i := 14) (oi := ⟨some 153, .fieldAddr 27 (.tmp 2) 3, 0, "ref.go:245", #[⟨13, .guard⟩], some (13, false)⟩) ?_
                    try simp only [Act.put, nA]
                    refine tk (i := 15) (oi := ⟨some 154, .load 25 (.tmp 153), 25, "ref.go:245", #[⟨14, .data⟩, ⟨13, .guard⟩], some (13, false)⟩) ?_
                    try simp only [Act.put, nA]
                    refine tk (i := 16) (oi := ⟨some 155, .move (.tmp 10), 3, "ref.go:245", #[⟨13, .guard⟩], some (13, false)⟩) ?_
                    try simp only [Act.put, nA]
                    refine tk (i := 17) (oi := ⟨some 156, .indexAddr 25 (.tmp 154) (.tmp 155), 0, "ref.go:245", #[⟨15, .data⟩, ⟨16, .data⟩, ⟨13, .guard⟩], some (13, false)⟩) ?_
                    try simp only [Act.put, nA]
                    refine tk (i := 18) (oi := ⟨some 157, .fieldAddr 55 (.tmp 156) 1, 0, "ref.go:245", #[⟨17, .data⟩, ⟨13, .guard⟩], some (13, false)⟩) ?_
                    try simp only [Act.put, nA]
                    refine tk (i := 19) (oi := ⟨some 158, .load 47 (.tmp 157), 47, "ref.go:245", #[⟨18, .data⟩, ⟨13, .guard⟩], some (13, false)⟩) ?_
                    try simp only [Act.put, nA]
                    refine tk (i := 20) (oi := ⟨some 159, .fieldAddr 27 (.tmp 3) 3, 0, "ref.go:245", #[⟨13, .guard⟩], some (13, false)⟩) ?_
                    try simp only [Act.put, nA]
                    refine tk (i := 21) (oi := ⟨some 160, .load 25 (.tmp 159), 25, "ref.go:245", #[⟨20, .data⟩, ⟨13, .guard⟩], some (13, false)⟩) ?_
                    try simp only [Act.put, nA]
                    refine tk (i := 22) (oi := ⟨some 161, .move (.tmp 10), 3, "ref.go:245", #[⟨13, .guard⟩], some (13, false)⟩) ?_
                    try simp only [Act.put, nA]
                    refine tk (i := 23) (oi := ⟨some 162, .indexAddr 25 (.tmp 160) (.tmp 161), 0, "ref.go:245", #[⟨21, .data⟩, ⟨22, .data⟩, ⟨13, .guard⟩], some (13, false)⟩) ?_
                    try simp only [Act.put, nA]
                    refine tk (i := 24) (oi := ⟨some 163, .fieldAddr 55 (.tmp 162) 1, 0, "ref.go:245", #[⟨23, .data⟩, ⟨13, .guard⟩], some (13, false)⟩) ?_
                    try simp only [Act.put, nA]
                    refine tk (i := 25) (oi := ⟨some 164, .load 47 (.tmp 163), 47, "ref.go:245", #[⟨24, .data⟩, ⟨13, .guard⟩], some (13, false)⟩) ?_
                    try simp only [Act.put, nA]
                    refine wpAnyH_ready (rs := [26]) (by kernel_rfl) (by simp) ?_
                    refine AllReadyH.cons (o := ⟨some 165, .call { callee := .value (.func 40), args := #[.tmp 158, .tmp 164], argTypes := #[47, 47] }, 4, "ref.go:245", #[⟨19, .data⟩, ⟨25, .data⟩, ⟨13, .chain⟩, ⟨13, .guard⟩], some (13, false)⟩) rfl (fun K9 hK => ?_) ?_
                    · go_simp
                      with_reducible refine (PB.out).mono ?_
                      rintro e1 w4 ⟨rfl, hb4⟩
                      have hq9 := Lib.hid (And.intro (cell_up hb4 a3) (And.intro (cell_up hb4 a8) (And.intro (cell_up hb4 d0) (And.intro (cell_up hb4 d1) (And.intro (cell_up hb4 f0) (cell_up hb4 f1))))))
                      replace hS := Lib.hid (hS.out.up hb4)
                      clear hb4 PB a3 a8 d0 d1 f0 f1
                      go_wp2_with fail
                      refine hK.out _ _ ?_ ?_
                      · (try dsimp only); exact hq9.out
                      clear hK K9 hHeld; intro hHeld
                      try simp only [Act.put, nA]
                      refine tk (i := 27) (oi := ⟨some 166, .unOp .not 4 (.tmp 165), 4, "ref.go:245", #[⟨26, .data⟩, ⟨13, .guard⟩], some (13, false)⟩) ?_
                      try simp only [Act.put, nA]
                      refine tk (i := 28) (oi := ⟨some 167, .pick (.tmp 152) (.const (.bool true)) (.tmp 166), 4, "ref.go:245", #[⟨13, .data⟩, ⟨27, .data⟩], none⟩) ?_
                      try simp only [Act.put, nA]
                      refine wpAnyH_done (by kernel_rfl) ?_ _
                      go_wp2
                      go_ret
                      exact ⟨congrArg (fun b => Ending.returned (Value.bool b)) e.out.symm, hS.out.bel⟩
                    exact AllReadyH.nil
                · as_aux_lemma =>
                  have hlt' : decide ((k : Int) < (l4 : Int)) = false := by simp; omega
                  have eqF : Hid (U.objects = V.objects) := Lib.hid (hE.out.all (by obtain ⟨h1, h2, h3, h4, h5, h6, h7, h8⟩ := hS.out.lens; omega) (by obtain ⟨h1, h2, h3, h4, h5, h6, h7, h8⟩ := hS.out.lens; omega))
                  obtain ⟨a0, a1, a2, a3, a4, a5, a6, a7, a8, a9⟩ := hS.out.cells
                  clear hE
                  have e : Hid (sameU U V = true) := Lib.hid ((sameU_iff U V).2 (by
                    have q1 := Q1.out
                    have q2 := Q2.out
                    have q3 := Q3.out
                    have q4 := eqF.out
                    have q5 := g5h.out
                    cases U; cases V
                    simp only at q1 q2 q3 q4 q5
                    rw [q1, q2, q3, q4, q5]))
                  go_wp2
                  go_ret
                  exact ⟨congrArg (fun b => Ending.returned (Value.bool b)) e.out.symm, hS.out.bel⟩
end Wd
end Go.Proofs.YtgfdgdbkifkehaaGreat

/- An append of a row of whatever is read, none too (names, methods, objects besides). -/
namespace Go.Proofs.YtgfdgdbkifkehaaGreat
open Go.RowKit
set_option linter.unusedVariables false
set_option maxRecDepth 20000
namespace Wd
/-- what an append reads: cells of m elements -/
def Rd (w : World) (u : Value) (m : Nat) (news : List Value) : Prop := (∃ c, u = .slice none 0 c ∧ m = 0 ∧ news = []) ∨ ∃ ad c, u = .slice (some ad) m c ∧ ∀ j x, news[j]? = some x → w.cell? (ad.add j) = some x
theorem Rd.up {w w1 : World} {u : Value} {m : Nat} {news : List Value} (h : Rd w u m news) (b : Below w.heap.size w w1) : Rd w1 u m news := by
  rcases h with h | ⟨ad, c, e, hc⟩
  · exact Or.inl h
  · exact Or.inr ⟨ad, c, e, fun j x hx => cell_up b (hc j x hx)⟩
theorem run_app_none {P : Program} (w : World) (base : Nat) (t ty e : TypeId) (i : TypeInfo) (size n c : Nat) (ht : P.underlying t = some (.slice e)) (hi : P.info? e = some i) (v : Value) (xs : List Value) (hown : w.ownsRow base e size v n xs) :
    (Builtin.append_ #[t, t] ty #[v, .slice none 0 c]).run P w = .ok v w := by
  rcases hown.2 with ⟨rfl, rfl⟩ | ⟨g, cap, cur, rfl, _, _, hle, _⟩
  · simp [Builtin.append_, run_underlying ht, sizeOf, typeInfo, hi, Builtin.lenOf, Builtin.firstCells]
  · simp [Builtin.append_, run_underlying ht, sizeOf, typeInfo, hi, Builtin.lenOf, Builtin.firstCells, hle, storeCells]
theorem run_app_any {P : Program} (w : World) (base : Nat) (t ty e : TypeId) (i : TypeInfo) (z : Value) (size bytes : Nat) (ht : P.underlying t = some (.slice e)) (hi : P.info? e = some i) (hz : i.zero = some z)
    (hsize : i.size = size) (hby : i.bytes = bytes) (hzs : z.cells.size = size) (hsz : 0 < size)
    (v u : Value) (n m : Nat) (xs news : List Value) (hown : w.ownsRow base e size v n xs) (hu : Rd w u m news) (hl : news.length = m * size) (h1 : ∀ u ∈ news, u.oneCell' = true)
    (h63 : n + m ≤ maxLen) (hbytes : (n + m) * bytes ≤ 140737488355328) (hbase : base ≤ w.heap.size) :
    ∃ v' w', (Builtin.append_ #[t, t] ty #[v, u]).run P w = .ok v' w' ∧ w'.ownsRow base e size v' (n + m) (xs ++ news) ∧ w.grownBy w' v.ownBlock ∧ (v'.ownBlock = v.ownBlock ∨ v'.ownBlock = some w.heap.size) := by
  rcases hu with ⟨c, rfl, rfl, rfl⟩ | ⟨ad, c, rfl, hc⟩
  · exact ⟨v, w, run_app_none w base t ty e i size n c ht hi v xs hown, by simpa using hown, grown_refl _ _, Or.inl rfl⟩
  · obtain ⟨v', w', hr, h2, h3, _, h5⟩ := run_append_own_at (P := P) w base t ty e i z size bytes ht hi hz hsize hby hzs hsz v n xs hown ad m c news hl hc h1 h63 hbytes hbase
    exact ⟨v', w', hr, h2, h3, h5⟩
theorem wpList_app_any {P : Program} {w : World} {ops : Array Oper} {rest : List Oper} {o : Oper} {a : Act} {Q : Exit → Act → World → Prop} (hgd : o.guard = none) (s x : Operand) (t : TypeId)
    (ho : o.op = .call { callee := .builtin .append, args := #[s, x], argTypes := #[t, t] })
    (base : Nat) (e : TypeId) (i : TypeInfo) (z : Value) (size bytes : Nat) (ht : P.underlying t = some (.slice e)) (hi : P.info? e = some i) (hz : i.zero = some z)
    (hsize : i.size = size) (hby : i.bytes = bytes) (hzs : z.cells.size = size) (hsz : 0 < size)
    (v u : Value) (n m : Nat) (xs news : List Value) (hs : a.eval s = v) (hx : a.eval x = u) (hown : w.ownsRow base e size v n xs) (hu : Rd w u m news) (hl : news.length = m * size) (h1 : ∀ u ∈ news, u.oneCell' = true)
    (h63 : n + m ≤ maxLen) (hbytes : (n + m) * bytes ≤ 140737488355328) (hbase : base ≤ w.heap.size)
    (h : ∀ v' w', w'.ownsRow base e size v' (n + m) (xs ++ news) → w.grownBy w' v.ownBlock → (v'.ownBlock = v.ownBlock ∨ v'.ownBlock = some w.heap.size) → wpList P ops Q rest (a.put o.dst v') w') : wpList P ops Q (o :: rest) a w := by
  refine wpList_plain hgd fun K hK => ?_
  obtain ⟨v', w', hr, h2, h3, h5⟩ := run_app_any (P := P) w base t o.type e i z size bytes ht hi hz hsize hby hzs hsz v u n m xs news hown hu hl h1 h63 hbytes hbase
  unfold Oper.wp execOp
  simp only [ho, resolve, invoke, builtin, Sem.run_bind, Sem.run_pure, Result.andThen_ok, List.map_toArray, List.map_cons, List.map_nil, hs, hx, hr]
  exact hK _ _ (h v' w' h2 h3 h5)
theorem ClV.rd {w : World} {v : Value} {L : List ClassA} (h : ClV w v L) : ∃ T : List (ClassA × Value), T.map (·.1) = L ∧ (∀ x ∈ T, In64 x.1.super ∧ In64 x.1.fields ∧ PrV w x.2 x.1.binds) ∧ Rd w v L.length (cl4s T) := by
  obtain ⟨ad, cap, rfl, hc, hm⟩ := h.form
  obtain ⟨T, e, hT, hcell⟩ := h.cells
  refine ⟨T, e, hT, ?_⟩
  have hl : T.length = L.length := by rw [← e]; simp
  cases ad with
  | none =>
    left
    have hz : cl4s T = [] := by
      cases hq : cl4s T with
      | nil => rfl
      | cons x X =>
        obtain ⟨g, off, e, _⟩ := hcell 0 x (by rw [hq]; rfl)
        cases e
    have hz0 : T.length = 0 := by
      have := cl4s_len T
      rw [hz] at this
      simp at this; omega
    exact ⟨cap, by rw [← hl, hz0], by rw [← hl, hz0], hz⟩
  | some ad =>
    right
    refine ⟨ad, cap, rfl, fun j x hx => ?_⟩
    obtain ⟨g, off, e, hc⟩ := hcell j x hx
    cases e
    rw [Addr.add_lit]
    exact hc
theorem PrV.cells {w : World} {ad : Option Addr} {n cap : Nat} {L : List (Int × Int)} (h : PrV w (.slice ad n cap) L) : ∀ k u, (pr2 L)[k]? = some u → ∃ g off, ad = some ⟨g, off, none⟩ ∧ w.cell? ⟨g, off + k, none⟩ = some u := by
  intro k u hk
  obtain ⟨q, r, hr, rfl⟩ : ∃ q r, r < 2 ∧ k = q * 2 + r := ⟨k / 2, k % 2, by omega, by omega⟩
  have hq : q < L.length := by have := (List.getElem?_eq_some_iff.1 hk).1; rw [pr2_len] at this; omega
  obtain ⟨x, hx⟩ : ∃ x, L[q]? = some x := ⟨L[q], by simp⟩
  obtain ⟨_, _, g, off, e, c0, c1⟩ := h.at hx
  obtain ⟨p0, p1⟩ := pr2_get L q x hx
  refine ⟨g, off, e, ?_⟩
  rcases (show r = 0 ∨ r = 1 by omega) with rfl | rfl
  · rw [Nat.add_zero] at hk ⊢
    rw [p0] at hk; cases hk
    exact c0
  · rw [p1] at hk; cases hk
    exact c1
theorem PrV.rd {w : World} {v : Value} {L : List (Int × Int)} (h : PrV w v L) : Rd w v L.length (pr2 L) := by
  obtain ⟨ad, cap, rfl, hc, hm⟩ := h.form
  have hcell := h.cells
  cases ad with
  | none =>
    left
    have hz : L.length = 0 := by
      cases L with
      | nil => rfl
      | cons x X =>
        obtain ⟨g, off, e, _⟩ := hcell 0 (.int .i64 x.1) (by simp [pr2])
        cases e
    exact ⟨cap, by rw [hz], hz, by rw [List.length_eq_zero_iff.1 hz]; rfl⟩
  | some ad =>
    right
    refine ⟨ad, cap, rfl, fun j x hx => ?_⟩
    obtain ⟨g, off, e, hc⟩ := hcell j x hx
    cases e
    rw [Addr.add_lit]
    exact hc
theorem PrV.b64 {w : World} {v : Value} {L : List (Int × Int)} (h : PrV w v L) : ∀ x ∈ L, In64 x.1 ∧ In64 x.2 := by
  intro x hx
  obtain ⟨ad, cap, rfl, _⟩ := h.form
  obtain ⟨k, hk⟩ := List.getElem?_of_mem hx
  obtain ⟨a, b, _⟩ := h.at hk
  exact ⟨a, b⟩
/-- an empty row -/
theorem made_none (w : World) (T : TypeId) (sz base : Nat) (hb : base ≤ w.heap.size) : (w.alloc (.cells #[] T)).ownsRow base T sz (.slice (some ⟨w.heap.size, 0, none⟩) 0 0) 0 [] := World.ownsRow_made w #[] 0 hb (by decide) (by simp)
theorem PrV.nil (w : World) : PrV w (.slice none 0 0) [] := ⟨none, 0, rfl, by simp, by decide, fun k x hx => by simp at hx⟩
theorem ByV.nil (w : World) : ByV w (.slice none 0 0) [] := ⟨none, 0, rfl, by simp, by decide, fun k x hx => by simp at hx⟩
theorem ByV.rd {w : World} {v : Value} {L : List Int} (h : ByV w v L) : Rd w v L.length (bys L) := by
  obtain ⟨ad, cap, rfl, hc, hm⟩ := h.form
  cases ad with
  | none =>
    left
    have hz : L = [] := by
      cases L with
      | nil => rfl
      | cons x X =>
        obtain ⟨_, g, off, e, _⟩ := h.at (k := 0) (x := x) rfl
        cases e
    subst hz
    exact ⟨cap, rfl, rfl, rfl⟩
  | some ad =>
    right
    refine ⟨ad, cap, rfl, fun j x hx => ?_⟩
    obtain ⟨y, hy, rfl⟩ : ∃ y, L[j]? = some y ∧ .int .u8 y = x := by simpa [bys] using hx
    obtain ⟨_, g, off, e, c0⟩ := h.at hy
    cases e
    rw [Addr.add_lit]
    exact c0
theorem ByV.b8 {w : World} {v : Value} {L : List Int} (h : ByV w v L) : ∀ x ∈ L, 0 ≤ x ∧ x ≤ 255 := by
  intro x hx
  obtain ⟨ad, cap, rfl, _⟩ := h.form
  obtain ⟨k, hk⟩ := List.getElem?_of_mem hx
  exact (h.at hk).1
theorem rd_cells {w : World} {ad : Option Addr} {n cap size : Nat} {xs : List Value} (hl : xs.length = n * size) (hs : 0 < size) (hc : ∀ k u, xs[k]? = some u → ∃ g off, ad = some ⟨g, off, none⟩ ∧ w.cell? ⟨g, off + k, none⟩ = some u) : Rd w (.slice ad n cap) n xs := by
  cases ad with
  | none =>
    left
    have hz : xs = [] := by
      cases xs with
      | nil => rfl
      | cons x X => obtain ⟨g, off, e, _⟩ := hc 0 x rfl; cases e
    subst hz
    have hn : n = 0 := by
      rcases Nat.eq_zero_or_pos n with h | h
      · exact h
      · have := Nat.mul_pos h hs; simp at hl; omega
    exact ⟨cap, by rw [hn], hn, rfl⟩
  | some ad =>
    right
    refine ⟨ad, cap, rfl, fun j x hx => ?_⟩
    obtain ⟨g, off, e, h⟩ := hc j x hx
    cases e
    rw [Addr.add_lit]
    exact h
theorem pick_list {α : Type} {R : Nat → α → Prop} : ∀ n, (∀ k, k < n → ∃ x, R k x) → ∃ L : List α, L.length = n ∧ ∀ (k : Nat) x, L[k]? = some x → R k x
  | 0, _ => ⟨[], rfl, fun k x h => by simp at h⟩
  | n + 1, h => by
    obtain ⟨L, hl, hL⟩ := pick_list n (fun k hk => h k (by omega))
    obtain ⟨x, hx⟩ := h n (by omega)
    refine ⟨L ++ [x], by simp [hl], fun k y hy => ?_⟩
    by_cases hk : k < n
    · rw [List.getElem?_append_left (by omega)] at hy
      exact hL k y hy
    · rw [List.getElem?_append_right (by omega)] at hy
      have h0 := (List.getElem?_eq_some_iff.1 hy).1
      simp at h0
      have e : k = n := by omega
      subst e
      rw [hl, Nat.sub_self] at hy
      simp at hy
      subst hy
      exact hx
theorem strs_len (L : List ByteArray) : (strs L).length = L.length := by simp [strs]
theorem strs_one (L : List ByteArray) : ∀ u ∈ strs L, u.oneCell' = true := by
  intro u hu
  obtain ⟨x, _, rfl⟩ : ∃ x, x ∈ L ∧ Value.string x = u := by simpa [strs] using hu
  rfl
theorem NmV.rd {w : World} {v : Value} {L : List ByteArray} (h : NmV w v L) : Rd w v L.length (strs L) := by
  obtain ⟨ad, cap, rfl, _, _, h3⟩ := h.ex
  refine rd_cells (size := 1) (by simp [strs]) (by decide) (fun k u hk => ?_)
  obtain ⟨x, hx, rfl⟩ : ∃ x, L[k]? = some x ∧ Value.string x = u := by simpa [strs] using hk
  exact h3 k x hx
theorem MtV.rd {w : World} {v : Value} {L : List MethA} (h : MtV w v L) : ∃ M : List (MethA × Value × Value), M.map (·.1) = L ∧ (∀ x ∈ M, In64 x.1.args ∧ In64 x.1.temps ∧ PrV w x.2.1 x.1.lits ∧ ByV w x.2.2 x.1.code) ∧ Rd w v L.length (mt4s M) := by
  obtain ⟨ad, cap, rfl, _, _, h3⟩ := h.ex
  obtain ⟨M, hl, hM⟩ := pick_list (R := fun (k : Nat) (x : MethA × Value × Value) => L[k]? = some x.1 ∧ In64 x.1.args ∧ In64 x.1.temps ∧ (∃ g off, ad = some ⟨g, off, none⟩ ∧ w.cell? ⟨g, off + k * 4, none⟩ = some (.int .i64 x.1.args) ∧ w.cell? ⟨g, off + k * 4 + 1, none⟩ = some (.int .i64 x.1.temps) ∧ w.cell? ⟨g, off + k * 4 + 2, none⟩ = some x.2.1 ∧ w.cell? ⟨g, off + k * 4 + 3, none⟩ = some x.2.2) ∧ PrV w x.2.1 x.1.lits ∧ ByV w x.2.2 x.1.code) L.length (fun k hk => by
    obtain ⟨x, hx⟩ : ∃ x, L[k]? = some x := ⟨L[k], by simp⟩
    obtain ⟨i1, i2, g, off, lv, cv, e, c0, c1, c2, c3, p, q⟩ := h3 k x hx
    exact ⟨(x, lv, cv), hx, i1, i2, ⟨g, off, e, c0, c1, c2, c3⟩, p, q⟩)
  refine ⟨M, ?_, fun x hx => ?_, rd_cells (size := 4) (by rw [mt4s_len, hl]) (by decide) (fun k u hk => ?_)⟩
  · apply List.ext_getElem?
    intro k
    rw [List.getElem?_map]
    cases hx : M[k]? with
    | none =>
      have : L.length ≤ k := by rw [← hl]; exact List.getElem?_eq_none_iff.1 hx
      rw [List.getElem?_eq_none this]; rfl
    | some x => exact (hM k x hx).1.symm
  · obtain ⟨k, hk⟩ := List.getElem?_of_mem hx
    obtain ⟨_, i1, i2, _, p, q⟩ := hM k x hk
    exact ⟨i1, i2, p, q⟩
  · obtain ⟨q, r, hr, rfl⟩ : ∃ q r, r < 4 ∧ k = q * 4 + r := ⟨k / 4, k % 4, by omega, by omega⟩
    have hq : q < M.length := by have := (List.getElem?_eq_some_iff.1 hk).1; rw [mt4s_len] at this; omega
    obtain ⟨x, hx⟩ : ∃ x, M[q]? = some x := ⟨M[q], by simp⟩
    obtain ⟨_, _, _, ⟨g, off, e, c0, c1, c2, c3⟩, _⟩ := hM q x hx
    obtain ⟨p0, p1, p2, p3⟩ := mt4s_get M q x hx
    refine ⟨g, off, e, ?_⟩
    rcases (show r = 0 ∨ r = 1 ∨ r = 2 ∨ r = 3 by omega) with rfl | rfl | rfl | rfl
    · rw [Nat.add_zero] at hk ⊢; rw [p0] at hk; cases hk; exact c0
    · rw [p1] at hk; cases hk; exact c1
    · rw [p2] at hk; cases hk; exact c2
    · rw [p3] at hk; cases hk; exact c3
theorem ObV.rd {w : World} {v : Value} {L : List ObjA} (h : ObV w v L) : ∃ M : List (ObjA × Value), M.map (·.1) = L ∧ (∀ x ∈ M, In64 x.1.cls ∧ PrV w x.2 x.1.flds) ∧ Rd w v L.length (ob2s M) := by
  obtain ⟨ad, cap, rfl, _, _, h3⟩ := h.ex
  obtain ⟨M, hl, hM⟩ := pick_list (R := fun (k : Nat) (x : ObjA × Value) => L[k]? = some x.1 ∧ In64 x.1.cls ∧ (∃ g off, ad = some ⟨g, off, none⟩ ∧ w.cell? ⟨g, off + k * 2, none⟩ = some (.int .i64 x.1.cls) ∧ w.cell? ⟨g, off + k * 2 + 1, none⟩ = some x.2) ∧ PrV w x.2 x.1.flds) L.length (fun k hk => by
    obtain ⟨x, hx⟩ : ∃ x, L[k]? = some x := ⟨L[k], by simp⟩
    obtain ⟨i1, g, off, fv, e, c0, c1, p⟩ := h3 k x hx
    exact ⟨(x, fv), hx, i1, ⟨g, off, e, c0, c1⟩, p⟩)
  refine ⟨M, ?_, fun x hx => ?_, rd_cells (size := 2) (by rw [ob2s_len, hl]) (by decide) (fun k u hk => ?_)⟩
  · apply List.ext_getElem?
    intro k
    rw [List.getElem?_map]
    cases hx : M[k]? with
    | none =>
      have : L.length ≤ k := by rw [← hl]; exact List.getElem?_eq_none_iff.1 hx
      rw [List.getElem?_eq_none this]; rfl
    | some x => exact (hM k x hx).1.symm
  · obtain ⟨k, hk⟩ := List.getElem?_of_mem hx
    obtain ⟨_, i1, _, p⟩ := hM k x hk
    exact ⟨i1, p⟩
  · obtain ⟨q, r, hr, rfl⟩ : ∃ q r, r < 2 ∧ k = q * 2 + r := ⟨k / 2, k % 2, by omega, by omega⟩
    have hq : q < M.length := by have := (List.getElem?_eq_some_iff.1 hk).1; rw [ob2s_len] at this; omega
    obtain ⟨x, hx⟩ : ∃ x, M[q]? = some x := ⟨M[q], by simp⟩
    obtain ⟨_, _, ⟨g, off, e, c0, c1⟩, _⟩ := hM q x hx
    obtain ⟨p0, p1⟩ := ob2s_get M q x hx
    refine ⟨g, off, e, ?_⟩
    rcases (show r = 0 ∨ r = 1 by omega) with rfl | rfl
    · rw [Nat.add_zero] at hk ⊢; rw [p0] at hk; cases hk; exact c0
    · rw [p1] at hk; cases hk; exact c1
end Wd
end Go.Proofs.YtgfdgdbkifkehaaGreat

/- A program that is being turned: a copy in blocks of the call's own. -/
namespace Go.Proofs.YtgfdgdbkifkehaaGreat
open Go.RowKit
set_option linter.unusedVariables false
set_option maxRecDepth 20000
namespace Wd
theorem PrV.far {w w1 : World} {v : Value} {L : List (Int × Int)} {F : Nat → Prop} (h : PrV w v L) (c : Cg F w w1) (hF : 0 < L.length → ∀ k, v.ownBlock = some k → ¬ F k) : PrV w1 v L := by
  obtain ⟨ad, cap, rfl, h1, h2, h3⟩ := h.ex
  refine ⟨ad, cap, rfl, h1, h2, fun k x hx => ?_⟩
  obtain ⟨i1, i2, g, off, e, c0, c1⟩ := h3 k x hx
  have hg : ¬ F g := hF (by have := (List.getElem?_eq_some_iff.1 hx).1; omega) g (by rw [e]; rfl)
  exact ⟨i1, i2, g, off, e, (World.cell?_of_block (a := ⟨g, off + k * 2, none⟩) (c.block g (World.block_lt_of_cell? w _ c0) hg)).trans c0, (World.cell?_of_block (a := ⟨g, off + k * 2 + 1, none⟩) (c.block g (World.block_lt_of_cell? w _ c1) hg)).trans c1⟩
theorem ByV.far {w w1 : World} {v : Value} {L : List Int} {F : Nat → Prop} (h : ByV w v L) (c : Cg F w w1) (hF : 0 < L.length → ∀ k, v.ownBlock = some k → ¬ F k) : ByV w1 v L := by
  obtain ⟨ad, cap, rfl, h1, h2, h3⟩ := h.ex
  refine ⟨ad, cap, rfl, h1, h2, fun k x hx => ?_⟩
  obtain ⟨i1, g, off, e, c0⟩ := h3 k x hx
  have hg : ¬ F g := hF (by have := (List.getElem?_eq_some_iff.1 hx).1; omega) g (by rw [e]; rfl)
  exact ⟨i1, g, off, e, (World.cell?_of_block (a := ⟨g, off + k, none⟩) (c.block g (World.block_lt_of_cell? w _ c0) hg)).trans c0⟩
/-- rows that stay whatever changes from s on, but for I -/
def StP (s : Nat) (I : Nat → Prop) (w : World) (v : Value) (L : List (Int × Int)) : Prop := ∀ w2, Cg (fun k => s ≤ k ∧ ¬ I k) w w2 → PrV w2 v L
def StB (s : Nat) (I : Nat → Prop) (w : World) (v : Value) (L : List Int) : Prop := ∀ w2, Cg (fun k => s ≤ k ∧ ¬ I k) w w2 → ByV w2 v L
section
variable {s : Nat} {I I' : Nat → Prop} {w w1 w2 : World} {v : Value} {L : List (Int × Int)} {C : List Int} {F : Nat → Prop}
theorem StP.cg (h : StP s I w v L) (c : Cg F w w1) (hF : ∀ k, F k → s ≤ k ∧ ¬ I k) : StP s I w1 v L := fun w2 c2 => h w2 ((c.mono hF).trans c2)
theorem StB.cg (h : StB s I w v C) (c : Cg F w w1) (hF : ∀ k, F k → s ≤ k ∧ ¬ I k) : StB s I w1 v C := fun w2 c2 => h w2 ((c.mono hF).trans c2)
theorem StP.more (h : StP s I w v L) (hI : ∀ k, I k → I' k) : StP s I' w v L := fun w2 c => h w2 (c.mono (fun k hk => ⟨hk.1, fun hi => hk.2 (hI k hi)⟩))
theorem StB.more (h : StB s I w v C) (hI : ∀ k, I k → I' k) : StB s I' w v C := fun w2 c => h w2 (c.mono (fun k hk => ⟨hk.1, fun hi => hk.2 (hI k hi)⟩))
theorem StP.view (h : StP s I w v L) : PrV w v L := h w (Cg.refl _ _)
theorem StB.view (h : StB s I w v C) : ByV w v C := h w (Cg.refl _ _)
theorem below_cg {w0 : World} (b : Below w0.heap.size w0 w) (c : Cg F w w2) (hF : ∀ k, F k → w0.heap.size ≤ k) : Below w0.heap.size w0 w2 :=
  ⟨c.os.trans b.os, c.tape.trans b.tape, c.output.trans b.output, Nat.le_trans b.size c.size, fun k hk => (c.block k (Nat.lt_of_lt_of_le hk b.size) (fun hf => by have := hF k hf; omega)).trans (b.block k hk)⟩
theorem StP.old {w0 : World} (h : PrV w0 v L) (b : Below w0.heap.size w0 w) : StP w0.heap.size I w v L := fun w2 c => h.up (below_cg b c (fun k hk => hk.1))
theorem StB.old {w0 : World} (h : ByV w0 v C) (b : Below w0.heap.size w0 w) : StB w0.heap.size I w v C := fun w2 c => h.up (below_cg b c (fun k hk => hk.1))
theorem StP.new (h : PrV w v L) (hI : ∀ k, v.ownBlock = some k → I k) : StP s I w v L := fun w2 c => h.far c (fun _ k hk hF => hF.2 (hI k hk))
theorem StB.new (h : ByV w v C) (hI : ∀ k, v.ownBlock = some k → I k) : StB s I w v C := fun w2 c => h.far c (fun _ k hk hF => hF.2 (hI k hk))
end
/-- how much there is of each, and that there is of what must be -/
structure Zb (b : Nat) (U : UnitA) : Prop where
  n : U.names.length ≤ b
  c1 : 1 ≤ U.classes.length
  c : U.classes.length ≤ b
  m1 : 1 ≤ U.methods.length
  m : U.methods.length ≤ b
  o1 : 1 ≤ U.objects.length
  o : U.objects.length ≤ b
  cb : ∀ x ∈ U.classes, x.binds.length ≤ b
  mb : ∀ x ∈ U.methods, x.lits.length ≤ b ∧ x.code.length ≤ b
  ob : ∀ x ∈ U.objects, x.flds.length ≤ b
  ns : ∀ x ∈ U.names, x.size ≤ 140737488355328
  cs : ∀ x ∈ U.classes, x.nm.size ≤ 140737488355328
abbrev uz5 : Obj := .cells #[.slice none 0 0, .slice none 0 0, .slice none 0 0, .slice none 0 0, .int .i64 0] 27 (0, 0)
/-- the boxes -/
structure OB (w0 wr : World) (x0 x1 x2 x3 : Value) (main : Int) : Prop where
  c0 : wr.cell? ⟨w0.heap.size, 0, none⟩ = some x0
  c1 : wr.cell? ⟨w0.heap.size, 1, none⟩ = some x1
  c2 : wr.cell? ⟨w0.heap.size, 2, none⟩ = some x2
  c3 : wr.cell? ⟨w0.heap.size, 3, none⟩ = some x3
  c4 : wr.cell? ⟨w0.heap.size, 4, none⟩ = some (.int .i64 main)
  z : ∀ j, wr.frozen? ⟨w0.heap.size, j, none⟩ = false
  r : wr.heap[w0.heap.size + 1]? = some uz5
  bel : Below w0.heap.size w0 wr
section
variable {w0 wr w1 : World} {x0 x1 x2 x3 x : Value} {main : Int} {F : Nat → Prop}
theorem OB.sz (h : OB w0 wr x0 x1 x2 x3 main) : w0.heap.size + 2 ≤ wr.heap.size := by have := (Array.getElem?_eq_some_iff.1 h.r).1; omega
theorem OB.cg (h : OB w0 wr x0 x1 x2 x3 main) (c : Cg F wr w1) (hF : ∀ k, F k → w0.heap.size + 2 ≤ k) : OB w0 w1 x0 x1 x2 x3 main := by
  have hs := h.sz
  have hb := c.block w0.heap.size (by omega) (fun hf => by have := hF _ hf; omega)
  have hr := c.block (w0.heap.size + 1) (by omega) (fun hf => by have := hF _ hf; omega)
  exact ⟨(World.cell?_of_block (a := ⟨w0.heap.size, 0, none⟩) hb).trans h.c0, (World.cell?_of_block (a := ⟨w0.heap.size, 1, none⟩) hb).trans h.c1, (World.cell?_of_block (a := ⟨w0.heap.size, 2, none⟩) hb).trans h.c2, (World.cell?_of_block (a := ⟨w0.heap.size, 3, none⟩) hb).trans h.c3, (World.cell?_of_block (a := ⟨w0.heap.size, 4, none⟩) hb).trans h.c4, fun j => (World.frozen?_of_block (a := ⟨w0.heap.size, j, none⟩) hb).trans (h.z j), hr.trans h.r, below_cg h.bel c (fun k hk => by have := hF k hk; omega)⟩
theorem OB.up (h : OB w0 wr x0 x1 x2 x3 main) (b : Below wr.heap.size wr w1) : OB w0 w1 x0 x1 x2 x3 main := h.cg (F := fun _ => False) (Cg.below _ b) (fun _ e => e.elim)
theorem OB.oth {i j : Nat} {v : Value} (hij : i ≠ j) (h : wr.cell? ⟨w0.heap.size, j, none⟩ = some v) : (wr.setCell ⟨w0.heap.size, i, none⟩ x).cell? ⟨w0.heap.size, j, none⟩ = some v := (World.cell?_setCell_other _ _ _ _ (by intro e; injection e with _ h2; omega)).trans h
theorem OB.set0 (h : OB w0 wr x0 x1 x2 x3 main) (x : Value) : OB w0 (wr.setCell ⟨w0.heap.size, 0, none⟩ x) x x1 x2 x3 main :=
  ⟨World.cell?_setCell_same _ _ _ h.c0, OB.oth (by decide) h.c1, OB.oth (by decide) h.c2, OB.oth (by decide) h.c3, OB.oth (by decide) h.c4, fun j => (World.frozen?_setCell _ _ _ _).trans (h.z j), (Below.heap_setCell _ _ _ _ (by simp only; omega)).trans h.r, h.bel.setCell (Nat.le_refl _) _⟩
theorem OB.set1 (h : OB w0 wr x0 x1 x2 x3 main) (x : Value) : OB w0 (wr.setCell ⟨w0.heap.size, 1, none⟩ x) x0 x x2 x3 main :=
  ⟨OB.oth (by decide) h.c0, World.cell?_setCell_same _ _ _ h.c1, OB.oth (by decide) h.c2, OB.oth (by decide) h.c3, OB.oth (by decide) h.c4, fun j => (World.frozen?_setCell _ _ _ _).trans (h.z j), (Below.heap_setCell _ _ _ _ (by simp only; omega)).trans h.r, h.bel.setCell (Nat.le_refl _) _⟩
theorem OB.set2 (h : OB w0 wr x0 x1 x2 x3 main) (x : Value) : OB w0 (wr.setCell ⟨w0.heap.size, 2, none⟩ x) x0 x1 x x3 main :=
  ⟨OB.oth (by decide) h.c0, OB.oth (by decide) h.c1, World.cell?_setCell_same _ _ _ h.c2, OB.oth (by decide) h.c3, OB.oth (by decide) h.c4, fun j => (World.frozen?_setCell _ _ _ _).trans (h.z j), (Below.heap_setCell _ _ _ _ (by simp only; omega)).trans h.r, h.bel.setCell (Nat.le_refl _) _⟩
theorem OB.set3 (h : OB w0 wr x0 x1 x2 x3 main) (x : Value) : OB w0 (wr.setCell ⟨w0.heap.size, 3, none⟩ x) x0 x1 x2 x main :=
  ⟨OB.oth (by decide) h.c0, OB.oth (by decide) h.c1, OB.oth (by decide) h.c2, World.cell?_setCell_same _ _ _ h.c3, OB.oth (by decide) h.c4, fun j => (World.frozen?_setCell _ _ _ _).trans (h.z j), (Below.heap_setCell _ _ _ _ (by simp only; omega)).trans h.r, h.bel.setCell (Nat.le_refl _) _⟩
theorem OB.set4 (h : OB w0 wr x0 x1 x2 x3 main) (m : Int) : OB w0 (wr.setCell ⟨w0.heap.size, 4, none⟩ (.int .i64 m)) x0 x1 x2 x3 m :=
  ⟨OB.oth (by decide) h.c0, OB.oth (by decide) h.c1, OB.oth (by decide) h.c2, OB.oth (by decide) h.c3, World.cell?_setCell_same _ _ _ h.c4, fun j => (World.frozen?_setCell _ _ _ _).trans (h.z j), (Below.heap_setCell _ _ _ _ (by simp only; omega)).trans h.r, h.bel.setCell (Nat.le_refl _) _⟩
end
/-- .. and the rows -/
structure OU (w0 wr : World) (I : Nat → Prop) (b : Nat) (N : List ByteArray) (T : List (ClassA × Value)) (M : List (MethA × Value × Value)) (O : List (ObjA × Value)) (nv cv mv ov : Value) (main : Int) : Prop where
  bx : OB w0 wr nv cv mv ov main
  on : wr.ownsRow (w0.heap.size + 2) 9 1 nv N.length (strs N)
  oc : wr.ownsRow (w0.heap.size + 2) 45 4 cv T.length (cl4s T)
  om : wr.ownsRow (w0.heap.size + 2) 50 4 mv M.length (mt4s M)
  oo : wr.ownsRow (w0.heap.size + 2) 55 2 ov O.length (ob2s O)
  ic : ∀ x ∈ T, In64 x.1.super ∧ In64 x.1.fields ∧ x.1.binds.length ≤ b ∧ StP w0.heap.size I wr x.2 x.1.binds
  im : ∀ x ∈ M, In64 x.1.args ∧ In64 x.1.temps ∧ x.1.lits.length ≤ b ∧ x.1.code.length ≤ b ∧ StP w0.heap.size I wr x.2.1 x.1.lits ∧ StB w0.heap.size I wr x.2.2 x.1.code
  io : ∀ x ∈ O, In64 x.1.cls ∧ x.1.flds.length ≤ b ∧ StP w0.heap.size I wr x.2 x.1.flds
  ap : (∀ k, nv.ownBlock = some k → cv.ownBlock ≠ some k ∧ mv.ownBlock ≠ some k ∧ ov.ownBlock ≠ some k ∧ ¬ I k) ∧ (∀ k, cv.ownBlock = some k → mv.ownBlock ≠ some k ∧ ov.ownBlock ≠ some k ∧ ¬ I k) ∧ (∀ k, mv.ownBlock = some k → ov.ownBlock ≠ some k ∧ ¬ I k) ∧ (∀ k, ov.ownBlock = some k → ¬ I k)
  iI : ∀ k, I k → w0.heap.size + 2 ≤ k
  ct : 1 ≤ T.length ∧ 1 ≤ M.length ∧ 1 ≤ O.length
  cn : N.length ≤ b ∧ T.length ≤ b ∧ M.length ≤ b ∧ O.length ≤ b
  ns : ∀ x ∈ N, x.size ≤ 140737488355328
  cs : ∀ x ∈ T, x.1.nm.size ≤ 140737488355328
section
variable {w0 wr w1 w2 : World} {I I' : Nat → Prop} {b b' : Nat} {N : List ByteArray} {T : List (ClassA × Value)} {M : List (MethA × Value × Value)} {O : List (ObjA × Value)} {nv cv mv ov : Value} {main : Int} {F : Nat → Prop}
theorem OU.cg (h : OU w0 wr I b N T M O nv cv mv ov main) (c : Cg F wr w1) (hF : ∀ k, F k → w0.heap.size + 2 ≤ k ∧ ¬ I k ∧ nv.ownBlock ≠ some k ∧ cv.ownBlock ≠ some k ∧ mv.ownBlock ≠ some k ∧ ov.ownBlock ≠ some k) : OU w0 w1 I b N T M O nv cv mv ov main := by
  have hi : ∀ k, F k → w0.heap.size ≤ k ∧ ¬ I k := fun k hk => ⟨by have := (hF k hk).1; omega, (hF k hk).2.1⟩
  exact ⟨h.bx.cg c (fun k hk => (hF k hk).1), row_cg h.on c (fun k e hf => (hF k hf).2.2.1 e), row_cg h.oc c (fun k e hf => (hF k hf).2.2.2.1 e), row_cg h.om c (fun k e hf => (hF k hf).2.2.2.2.1 e), row_cg h.oo c (fun k e hf => (hF k hf).2.2.2.2.2 e), fun x hx => by obtain ⟨a, d, e, f⟩ := h.ic x hx; exact ⟨a, d, e, f.cg c hi⟩, fun x hx => by obtain ⟨a, d, e, f, g, k⟩ := h.im x hx; exact ⟨a, d, e, f, g.cg c hi, k.cg c hi⟩, fun x hx => by obtain ⟨a, d, e⟩ := h.io x hx; exact ⟨a, d, e.cg c hi⟩, h.ap, h.iI, h.ct, h.cn, h.ns, h.cs⟩
theorem OU.up (h : OU w0 wr I b N T M O nv cv mv ov main) (bl : Below wr.heap.size wr w1) : OU w0 w1 I b N T M O nv cv mv ov main := h.cg (F := fun _ => False) (Cg.below _ bl) (fun _ e => e.elim)
/-- more may be made, inside -/
theorem OU.more (h : OU w0 wr I b N T M O nv cv mv ov main) (hb : b ≤ b') (hI : ∀ k, I k → I' k) (hI' : ∀ k, I' k → I k ∨ wr.heap.size ≤ k) : OU w0 wr I' b' N T M O nv cv mv ov main := by
  have hs := h.bx.sz
  have lt : ∀ {v : Value} {e : TypeId} {sz n : Nat} {xs : List Value}, wr.ownsRow (w0.heap.size + 2) e sz v n xs → ∀ k, v.ownBlock = some k → ¬ I k → ¬ I' k := fun hr k hk hn hi => by
    rcases hI' k hi with h1 | h1
    · exact hn h1
    · have := (hr.lt k hk).2; omega
  obtain ⟨a1, a2, a3, a4⟩ := h.ap
  exact ⟨h.bx, h.on, h.oc, h.om, h.oo, fun x hx => by obtain ⟨a, d, e, f⟩ := h.ic x hx; exact ⟨a, d, Nat.le_trans e hb, f.more hI⟩, fun x hx => by obtain ⟨a, d, e, f, g, k⟩ := h.im x hx; exact ⟨a, d, Nat.le_trans e hb, Nat.le_trans f hb, g.more hI, k.more hI⟩, fun x hx => by obtain ⟨a, d, e⟩ := h.io x hx; exact ⟨a, Nat.le_trans d hb, e.more hI⟩,
    ⟨fun k hk => ⟨(a1 k hk).1, (a1 k hk).2.1, (a1 k hk).2.2.1, lt h.on k hk (a1 k hk).2.2.2⟩, fun k hk => ⟨(a2 k hk).1, (a2 k hk).2.1, lt h.oc k hk (a2 k hk).2.2⟩, fun k hk => ⟨(a3 k hk).1, lt h.om k hk (a3 k hk).2⟩, fun k hk => lt h.oo k hk (a4 k hk)⟩,
    fun k hk => by rcases hI' k hk with h1 | h1; exact h.iI k h1; omega, h.ct, by obtain ⟨p, q, r, t⟩ := h.cn; exact ⟨Nat.le_trans p hb, Nat.le_trans q hb, Nat.le_trans r hb, Nat.le_trans t hb⟩, h.ns, h.cs⟩
theorem OU.setm (h : OU w0 wr I b N T M O nv cv mv ov main) (m : Int) : OU w0 (wr.setCell ⟨w0.heap.size, 4, none⟩ (.int .i64 m)) I b N T M O nv cv mv ov m := by
  have ne : ∀ {v : Value} {e : TypeId} {sz n : Nat} {xs : List Value}, wr.ownsRow (w0.heap.size + 2) e sz v n xs → v.ownBlock ≠ some w0.heap.size := fun hr e => by have := (hr.lt _ e).1; omega
  have c : Cg (fun k => k = w0.heap.size) wr (wr.setCell ⟨w0.heap.size, 4, none⟩ (.int .i64 m)) := (Cg.refl (fun k => k = w0.heap.size) wr).set ⟨w0.heap.size, 4, none⟩ rfl _
  have hi : ∀ k, k = w0.heap.size → w0.heap.size ≤ k ∧ ¬ I k := fun k hk => ⟨by omega, fun hI => by have := h.iI k hI; omega⟩
  exact ⟨h.bx.set4 m, row_set h.on _ _ (ne h.on), row_set h.oc _ _ (ne h.oc), row_set h.om _ _ (ne h.om), row_set h.oo _ _ (ne h.oo), fun x hx => by obtain ⟨a, d, e, f⟩ := h.ic x hx; exact ⟨a, d, e, f.cg c hi⟩, fun x hx => by obtain ⟨a, d, e, f, g, k⟩ := h.im x hx; exact ⟨a, d, e, f, g.cg c hi, k.cg c hi⟩, fun x hx => by obtain ⟨a, d, e⟩ := h.io x hx; exact ⟨a, d, e.cg c hi⟩, h.ap, h.iI, h.ct, h.cn, h.ns, h.cs⟩
theorem OU.cls {g n cp k j : Nat} {y : ClassA × Value} {u : Value} (h : OU w0 wr I b N T M O nv (.slice (some ⟨g, 0, none⟩) n cp) mv ov main) (hn : T.length = n) (hc : cl4s (T.set k y) = (cl4s T).set (k * 4 + j) u) (hy : In64 y.1.super ∧ In64 y.1.fields ∧ y.1.binds.length ≤ b ∧ StP w0.heap.size I wr y.2 y.1.binds) (hyn : y.1.nm.size ≤ 140737488355328) : OU w0 (wr.setCell ⟨g, k * 4 + j, none⟩ u) I b N (T.set k y) M O nv (.slice (some ⟨g, 0, none⟩) n cp) mv ov main := by
  have hg := (h.oc.lt g rfl).1
  have c : Cg (fun q => q = g) wr (wr.setCell ⟨g, k * 4 + j, none⟩ u) := (Cg.refl (fun q => q = g) wr).set ⟨g, k * 4 + j, none⟩ rfl u
  obtain ⟨a1, a2, a3, a4⟩ := h.ap
  have hi : ∀ q, q = g → w0.heap.size ≤ q ∧ ¬ I q := fun q hq => ⟨by omega, by subst hq; exact (a2 q rfl).2.2⟩
  have ho := h.oc
  rw [hn] at ho
  have hst := (ho.stored (k * 4 + j) u).1
  rw [← hc] at hst
  have hl : (T.set k y).length = T.length := List.length_set
  refine ⟨h.bx.cg c (fun q hq => by omega), row_set h.on _ _ (fun e => ?_), by rw [hl, hn]; exact hst, row_set h.om _ _ (fun e => ?_), row_set h.oo _ _ (fun e => ?_), ?_, ?_, ?_, h.ap, h.iI, by rw [hl]; exact h.ct, by rw [hl]; exact h.cn, h.ns, fun x hx => (List.mem_or_eq_of_mem_set hx).elim (fun m => h.cs x m) (fun e => by rw [e]; exact hyn)⟩
  · exact (a1 g e).1 rfl
  · exact (a2 g rfl).1 e
  · exact (a2 g rfl).2.1 e
  · intro x hx
    have hx' := (List.mem_or_eq_of_mem_set hx).elim (fun m => h.ic x m) (fun e => by rw [e]; exact hy)
    obtain ⟨a, d, e, f⟩ := hx'
    exact ⟨a, d, e, f.cg c hi⟩
  · intro x hx; obtain ⟨a, d, e, f, p, q⟩ := h.im x hx; exact ⟨a, d, e, f, p.cg c hi, q.cg c hi⟩
  · intro x hx; obtain ⟨a, d, e⟩ := h.io x hx; exact ⟨a, d, e.cg c hi⟩
theorem OU.met {g n cp k j : Nat} {y : MethA × Value × Value} {u : Value} (h : OU w0 wr I b N T M O nv cv (.slice (some ⟨g, 0, none⟩) n cp) ov main) (hn : M.length = n) (hc : mt4s (M.set k y) = (mt4s M).set (k * 4 + j) u) (hy : In64 y.1.args ∧ In64 y.1.temps ∧ y.1.lits.length ≤ b ∧ y.1.code.length ≤ b ∧ StP w0.heap.size I wr y.2.1 y.1.lits ∧ StB w0.heap.size I wr y.2.2 y.1.code) : OU w0 (wr.setCell ⟨g, k * 4 + j, none⟩ u) I b N T (M.set k y) O nv cv (.slice (some ⟨g, 0, none⟩) n cp) ov main := by
  have hg := (h.om.lt g rfl).1
  have c : Cg (fun q => q = g) wr (wr.setCell ⟨g, k * 4 + j, none⟩ u) := (Cg.refl (fun q => q = g) wr).set ⟨g, k * 4 + j, none⟩ rfl u
  obtain ⟨a1, a2, a3, a4⟩ := h.ap
  have hi : ∀ q, q = g → w0.heap.size ≤ q ∧ ¬ I q := fun q hq => ⟨by omega, by subst hq; exact (a3 q rfl).2⟩
  have ho := h.om
  rw [hn] at ho
  have hst := (ho.stored (k * 4 + j) u).1
  rw [← hc] at hst
  have hl : (M.set k y).length = M.length := List.length_set
  refine ⟨h.bx.cg c (fun q hq => by omega), row_set h.on _ _ (fun e => ?_), row_set h.oc _ _ (fun e => ?_), by rw [hl, hn]; exact hst, row_set h.oo _ _ (fun e => ?_), ?_, ?_, ?_, h.ap, h.iI, by rw [hl]; exact h.ct, by rw [hl]; exact h.cn, h.ns, h.cs⟩
  · exact (a1 g e).2.1 rfl
  · exact (a2 g e).1 rfl
  · exact (a3 g rfl).1 e
  · intro x hx; obtain ⟨a, d, e, f⟩ := h.ic x hx; exact ⟨a, d, e, f.cg c hi⟩
  · intro x hx
    have hx' := (List.mem_or_eq_of_mem_set hx).elim (fun m => h.im x m) (fun e => by rw [e]; exact hy)
    obtain ⟨a, d, e, f, p, q⟩ := hx'
    exact ⟨a, d, e, f, p.cg c hi, q.cg c hi⟩
  · intro x hx; obtain ⟨a, d, e⟩ := h.io x hx; exact ⟨a, d, e.cg c hi⟩
theorem OU.obj {g n cp k j : Nat} {y : ObjA × Value} {u : Value} (h : OU w0 wr I b N T M O nv cv mv (.slice (some ⟨g, 0, none⟩) n cp) main) (hn : O.length = n) (hc : ob2s (O.set k y) = (ob2s O).set (k * 2 + j) u) (hy : In64 y.1.cls ∧ y.1.flds.length ≤ b ∧ StP w0.heap.size I wr y.2 y.1.flds) : OU w0 (wr.setCell ⟨g, k * 2 + j, none⟩ u) I b N T M (O.set k y) nv cv mv (.slice (some ⟨g, 0, none⟩) n cp) main := by
  have hg := (h.oo.lt g rfl).1
  have c : Cg (fun q => q = g) wr (wr.setCell ⟨g, k * 2 + j, none⟩ u) := (Cg.refl (fun q => q = g) wr).set ⟨g, k * 2 + j, none⟩ rfl u
  obtain ⟨a1, a2, a3, a4⟩ := h.ap
  have hi : ∀ q, q = g → w0.heap.size ≤ q ∧ ¬ I q := fun q hq => ⟨by omega, by subst hq; exact (a4 q rfl)⟩
  have ho := h.oo
  rw [hn] at ho
  have hst := (ho.stored (k * 2 + j) u).1
  rw [← hc] at hst
  have hl : (O.set k y).length = O.length := List.length_set
  refine ⟨h.bx.cg c (fun q hq => by omega), row_set h.on _ _ (fun e => ?_), row_set h.oc _ _ (fun e => ?_), row_set h.om _ _ (fun e => ?_), by rw [hl, hn]; exact hst, ?_, ?_, ?_, h.ap, h.iI, by rw [hl]; exact h.ct, by rw [hl]; exact h.cn, h.ns, h.cs⟩
  · exact (a1 g e).2.2.1 rfl
  · exact (a2 g e).2.1 rfl
  · exact (a3 g e).1 rfl
  · intro x hx; obtain ⟨a, d, e, f⟩ := h.ic x hx; exact ⟨a, d, e, f.cg c hi⟩
  · intro x hx; obtain ⟨a, d, e, f, p, q⟩ := h.im x hx; exact ⟨a, d, e, f, p.cg c hi, q.cg c hi⟩
  · intro x hx
    have hx' := (List.mem_or_eq_of_mem_set hx).elim (fun m => h.io x m) (fun e => by rw [e]; exact hy)
    obtain ⟨a, d, e⟩ := hx'
    exact ⟨a, d, e.cg c hi⟩
end
end Wd
end Go.Proofs.YtgfdgdbkifkehaaGreat

/- Turning a program: rows that grow; how it ends. -/
namespace Go.Proofs.YtgfdgdbkifkehaaGreat
open Go.RowKit
set_option linter.unusedVariables false
set_option maxRecDepth 20000
namespace Wd
theorem strs_app (A B : List ByteArray) : strs (A ++ B) = strs A ++ strs B := by simp [strs]
theorem NmV.own2 {w : World} {base : Nat} {e : TypeId} {v : Value} {T : List ByteArray} (h : w.ownsRow base e 1 v T.length (strs T)) : NmV w v T := by
  rcases h.2 with ⟨rfl, h0⟩ | ⟨g, cap, cur, rfl, h1, h2, h3, h4, _⟩
  · have : T = [] := List.length_eq_zero_iff.1 h0
    subst this
    exact ⟨none, 0, rfl, by simp, by decide, fun k x hx => by simp at hx⟩
  · refine ⟨_, cap, rfl, h3, h4, fun k x hx => ⟨g, 0, rfl, ?_⟩⟩
    have hk := (List.getElem?_eq_some_iff.1 hx).1
    rw [Nat.zero_add]
    exact (h.cellAt k (by omega)).trans (by simp [strs, hx])
theorem NmV.take {w : World} {ad : Option Addr} {n cap : Nat} {L : List ByteArray} (h : NmV w (.slice ad n cap) L) (k : Nat) (hk : k ≤ L.length) : NmV w (.slice ad k cap) (L.take k) := by
  obtain ⟨ad', cap', e, h1, h2, h3⟩ := h.ex
  cases e
  have hl : (L.take k).length = k := by rw [List.length_take]; omega
  refine ⟨ad, cap, by rw [hl], by omega, h2, fun j x hx => h3 j x ?_⟩
  rw [List.getElem?_take] at hx
  split at hx
  · exact hx
  · cases hx
theorem mt4s_up : ∀ (T : List (MethA × Value × Value)) (c : Nat) (x : MethA × Value × Value), T[c]? = some x → ∀ (a t : Int), mt4s (T.set c (⟨a, x.1.temps, x.1.lits, x.1.code⟩, x.2)) = (mt4s T).set (c * 4) (.int .i64 a) ∧ mt4s (T.set c (⟨x.1.args, t, x.1.lits, x.1.code⟩, x.2)) = (mt4s T).set (c * 4 + 1) (.int .i64 t)
  | [], c, x, h, _, _ => by simp at h
  | s :: T, 0, x, h, _, _ => by simp at h; subst h; simp [mt4s, mt4]
  | s :: T, c + 1, x, h, a, t => by
    obtain ⟨p, q⟩ := mt4s_up T c x (by simpa using h) a t
    simp only [List.set_cons_succ, mt4s, p, q]
    refine ⟨?_, ?_⟩
    · rw [show (c + 1) * 4 = 4 + c * 4 by omega, List.set_append_right _ _ (by simp [mt4])]; simp [mt4]
    · rw [show (c + 1) * 4 + 1 = 4 + (c * 4 + 1) by omega, List.set_append_right _ _ (by simp [mt4])]; simp [mt4]
theorem mt4s_row : ∀ (T : List (MethA × Value × Value)) (c : Nat) (x : MethA × Value × Value), T[c]? = some x → ∀ (L : List (Int × Int)) (C : List Int) (v : Value), mt4s (T.set c (⟨x.1.args, x.1.temps, L, x.1.code⟩, v, x.2.2)) = (mt4s T).set (c * 4 + 2) v ∧ mt4s (T.set c (⟨x.1.args, x.1.temps, x.1.lits, C⟩, x.2.1, v)) = (mt4s T).set (c * 4 + 3) v
  | [], c, x, h, _, _, _ => by simp at h
  | s :: T, 0, x, h, _, _, _ => by simp at h; subst h; simp [mt4s, mt4]
  | s :: T, c + 1, x, h, L, C, v => by
    obtain ⟨p, q⟩ := mt4s_row T c x (by simpa using h) L C v
    simp only [List.set_cons_succ, mt4s, p, q]
    refine ⟨?_, ?_⟩
    · rw [show (c + 1) * 4 + 2 = 4 + (c * 4 + 2) by omega, List.set_append_right _ _ (by simp [mt4])]; simp [mt4]
    · rw [show (c + 1) * 4 + 3 = 4 + (c * 4 + 3) by omega, List.set_append_right _ _ (by simp [mt4])]; simp [mt4]
theorem ob2s_up : ∀ (T : List (ObjA × Value)) (c : Nat) (x : ObjA × Value), T[c]? = some x → ∀ (a : Int) (L : List (Int × Int)) (v : Value), ob2s (T.set c (⟨a, x.1.flds⟩, x.2)) = (ob2s T).set (c * 2) (.int .i64 a) ∧ ob2s (T.set c (⟨x.1.cls, L⟩, v)) = (ob2s T).set (c * 2 + 1) v
  | [], c, x, h, _, _, _ => by simp at h
  | s :: T, 0, x, h, _, _, _ => by simp at h; subst h; simp [ob2s]
  | s :: T, c + 1, x, h, a, L, v => by
    obtain ⟨p, q⟩ := ob2s_up T c x (by simpa using h) a L v
    simp only [List.set_cons_succ, ob2s, p, q]
    refine ⟨?_, ?_⟩
    · rw [show (c + 1) * 2 = c * 2 + 2 by omega]; simp
    · rw [show (c + 1) * 2 = c * 2 + 1 + 1 by omega]; simp
theorem cl4s_up : ∀ (T : List (ClassA × Value)) (c : Nat) (x : ClassA × Value), T[c]? = some x → ∀ (s f : Int), cl4s (T.set c (⟨x.1.nm, s, x.1.fields, x.1.binds⟩, x.2)) = (cl4s T).set (c * 4 + 1) (.int .i64 s) ∧ cl4s (T.set c (⟨x.1.nm, x.1.super, f, x.1.binds⟩, x.2)) = (cl4s T).set (c * 4 + 2) (.int .i64 f)
  | [], c, x, h, _, _ => by simp at h
  | s :: T, 0, x, h, _, _ => by simp at h; subst h; simp [cl4s, cl4]
  | s :: T, c + 1, x, h, s', f => by
    obtain ⟨b, d⟩ := cl4s_up T c x (by simpa using h) s' f
    simp only [List.set_cons_succ, cl4s, b, d]
    refine ⟨?_, ?_⟩
    · rw [show (c + 1) * 4 + 1 = 4 + (c * 4 + 1) by omega, List.set_append_right _ _ (by simp [cl4])]; simp [cl4]
    · rw [show (c + 1) * 4 + 2 = 4 + (c * 4 + 2) by omega, List.set_append_right _ _ (by simp [cl4])]; simp [cl4]
/-- turned: what its box holds is a program, whatever the other box is -/
structure OUf (w0 wx : World) (b : Nat) : Prop where
  mk ::
  ex : ∃ nv cv mv ov U, OB w0 wx nv cv mv ov U.main ∧ (∀ w2, Cg (fun k => k = w0.heap.size + 1) wx w2 → UnV w2 nv cv mv ov U) ∧ Zb b U
section
variable {w0 wr w1 w2 : World} {I I' : Nat → Prop} {b b' : Nat} {N : List ByteArray} {T : List (ClassA × Value)} {M : List (MethA × Value × Value)} {O : List (ObjA × Value)} {nv cv mv ov : Value} {main : Int} {F : Nat → Prop}
theorem OU.lst (h : OU w0 wr I b N T M O nv cv mv ov main) {w2 : World} (c : Cg (fun k => k = w0.heap.size + 1) wr w2) : UnV w2 nv cv mv ov ⟨N, T.map (·.1), M.map (·.1), O.map (·.1), main⟩ := by
  have hF : ∀ {v : Value} {e : TypeId} {sz n : Nat} {xs : List Value}, wr.ownsRow (w0.heap.size + 2) e sz v n xs → ∀ k, v.ownBlock = some k → ¬ k = w0.heap.size + 1 := fun hr k hk e => by have := (hr.lt k hk).1; omega
  have hi : ∀ k, k = w0.heap.size + 1 → w0.heap.size ≤ k ∧ ¬ I k := fun k hk => ⟨by omega, fun hI => by have := h.iI k hI; omega⟩
  exact ⟨NmV.own2 (row_cg h.on c (hF h.on)), ClV.own (row_cg h.oc c (hF h.oc)) (fun x hx => by obtain ⟨a, d, _, f⟩ := h.ic x hx; exact ⟨a, d, (f.cg c hi).view⟩), MtV.own (row_cg h.om c (hF h.om)) (fun x hx => by obtain ⟨a, d, _, _, f, g⟩ := h.im x hx; exact ⟨a, d, (f.cg c hi).view, (g.cg c hi).view⟩), ObV.own (row_cg h.oo c (hF h.oo)) (fun x hx => by obtain ⟨a, _, f⟩ := h.io x hx; exact ⟨a, (f.cg c hi).view⟩)⟩
theorem OU.zb (h : OU w0 wr I b N T M O nv cv mv ov main) : Zb b ⟨N, T.map (·.1), M.map (·.1), O.map (·.1), main⟩ := by
  obtain ⟨p, q, r⟩ := h.ct
  obtain ⟨n1, n2, n3, n4⟩ := h.cn
  exact ⟨n1, by simpa using p, by simpa using n2, by simpa using q, by simpa using n3, by simpa using r, by simpa using n4, fun x hx => by obtain ⟨y, hy, rfl⟩ := List.mem_map.1 hx; exact (h.ic y hy).2.2.1, fun x hx => by obtain ⟨y, hy, rfl⟩ := List.mem_map.1 hx; exact ⟨(h.im y hy).2.2.1, (h.im y hy).2.2.2.1⟩, fun x hx => by obtain ⟨y, hy, rfl⟩ := List.mem_map.1 hx; exact (h.io y hy).2.1, h.ns, fun x hx => by obtain ⟨y, hy, rfl⟩ := List.mem_map.1 hx; exact h.cs y hy⟩
theorem Zb.le {U : UnitA} (h : Zb b U) (hb : b ≤ b') : Zb b' U := ⟨Nat.le_trans h.n hb, h.c1, Nat.le_trans h.c hb, h.m1, Nat.le_trans h.m hb, h.o1, Nat.le_trans h.o hb, fun x hx => Nat.le_trans (h.cb x hx) hb, fun x hx => ⟨Nat.le_trans (h.mb x hx).1 hb, Nat.le_trans (h.mb x hx).2 hb⟩, fun x hx => Nat.le_trans (h.ob x hx) hb, h.ns, h.cs⟩
theorem OU.fin (h : OU w0 wr I b N T M O nv cv mv ov main) (hb : b ≤ b') : OUf w0 wr b' := ⟨nv, cv, mv, ov, ⟨N, T.map (·.1), M.map (·.1), O.map (·.1), main⟩, h.bx, fun w2 c => h.lst c, h.zb.le hb⟩
/-- the names cut -/
theorem OU.cutn {a : Option Addr} {n cp : Nat} (h : OU w0 wr I b N T M O (.slice a n cp) cv mv ov main) (k : Nat) (hk : k ≤ N.length) (hb : b ≤ b') : OUf w0 (wr.setCell ⟨w0.heap.size, 0, none⟩ (.slice a k cp)) b' := by
  have hs := h.bx.sz
  refine ⟨.slice a k cp, cv, mv, ov, ⟨N.take k, T.map (·.1), M.map (·.1), O.map (·.1), main⟩, h.bx.set0 _, fun w2 c => ?_, ?_⟩
  · have c0 : Cg (fun k => k = w0.heap.size + 1 ∨ k = w0.heap.size) wr w2 := ((Cg.refl (fun k => k = w0.heap.size + 1 ∨ k = w0.heap.size) wr).set ⟨w0.heap.size, 0, none⟩ (Or.inr rfl) (.slice a k cp)).trans (c.mono (fun k hk => Or.inl hk))
    have hF : ∀ {v : Value} {e : TypeId} {sz n : Nat} {xs : List Value}, wr.ownsRow (w0.heap.size + 2) e sz v n xs → ∀ k, v.ownBlock = some k → ¬ (k = w0.heap.size + 1 ∨ k = w0.heap.size) := fun hr k hk e => by have := (hr.lt k hk).1; omega
    have hi : ∀ k, (k = w0.heap.size + 1 ∨ k = w0.heap.size) → w0.heap.size ≤ k ∧ ¬ I k := fun k hk => ⟨by omega, fun hI => by have := h.iI k hI; omega⟩
    exact ⟨(NmV.own2 (row_cg h.on c0 (hF h.on))).take k hk, ClV.own (row_cg h.oc c0 (hF h.oc)) (fun x hx => by obtain ⟨a, d, _, f⟩ := h.ic x hx; exact ⟨a, d, (f.cg c0 hi).view⟩), MtV.own (row_cg h.om c0 (hF h.om)) (fun x hx => by obtain ⟨a, d, _, _, f, g⟩ := h.im x hx; exact ⟨a, d, (f.cg c0 hi).view, (g.cg c0 hi).view⟩), ObV.own (row_cg h.oo c0 (hF h.oo)) (fun x hx => by obtain ⟨a, _, f⟩ := h.io x hx; exact ⟨a, (f.cg c0 hi).view⟩)⟩
  · have z := h.zb.le hb
    exact ⟨by simp only [List.length_take]; have := z.n; simp only at this; omega, z.c1, z.c, z.m1, z.m, z.o1, z.o, z.cb, z.mb, z.ob, fun x hx => z.ns x (List.mem_of_mem_take hx), z.cs⟩
theorem OU.pushn {wA w5 : World} {nv' : Value} {x : ByteArray} (h : OU w0 wr I b N T M O nv cv mv ov main) (hA : Below wr.heap.size wr wA) (ho : w5.ownsRow (w0.heap.size + 2) 9 1 nv' (N.length + 1) (strs N ++ strs [x])) (hg : wA.grownBy w5 nv.ownBlock) (hat : ∀ k, nv'.ownBlock = some k → nv.ownBlock = some k ∨ k = wA.heap.size) (hI : ∀ k, I k → k < wA.heap.size) (hle : N.length + 1 ≤ b) (hxs : x.size ≤ 140737488355328) : OU w0 (w5.setCell ⟨w0.heap.size, 0, none⟩ nv') I b (N ++ [x]) T M O nv' cv mv ov main := by
  have h1 := h.up hA
  obtain ⟨a1, a2, a3, a4⟩ := h1.ap
  have hs := h1.bx.sz
  have c5 : Cg (fun k => nv.ownBlock = some k) wA w5 := (Cg.refl (fun k => nv.ownBlock = some k) wA).grown hg (fun k hk => Or.inl hk)
  have g5 : ∀ k, nv.ownBlock = some k → w0.heap.size + 2 ≤ k ∧ k < wA.heap.size := fun k hk => h1.on.lt k hk
  have hl5 := hg.size
  have cs : Cg (fun k => nv.ownBlock = some k ∨ k = w0.heap.size) wA (w5.setCell ⟨w0.heap.size, 0, none⟩ nv') := Cg.set (F := fun k => nv.ownBlock = some k ∨ k = w0.heap.size) (c5.mono (fun k hk => Or.inl hk)) ⟨w0.heap.size, 0, none⟩ (Or.inr rfl) _
  have hi : ∀ k, nv.ownBlock = some k ∨ k = w0.heap.size → w0.heap.size ≤ k ∧ ¬ I k := fun k hk => by
    rcases hk with hk | rfl
    · exact ⟨by have := (g5 k hk).1; omega, (a1 k hk).2.2.2⟩
    · exact ⟨Nat.le_refl _, fun hI9 => by have := h1.iI _ hI9; omega⟩
  have n0 : ∀ k, nv.ownBlock = some k ∨ k = w0.heap.size → cv.ownBlock ≠ some k := fun k hk => by
    rcases hk with hk | rfl
    · exact (a1 k hk).1
    · exact fun e => by have := (h1.oc.lt _ e).1; omega
  have n1 : ∀ k, nv.ownBlock = some k ∨ k = w0.heap.size → mv.ownBlock ≠ some k := fun k hk => by
    rcases hk with hk | rfl
    · exact (a1 k hk).2.1
    · exact fun e => by have := (h1.om.lt _ e).1; omega
  have n2 : ∀ k, nv.ownBlock = some k ∨ k = w0.heap.size → ov.ownBlock ≠ some k := fun k hk => by
    rcases hk with hk | rfl
    · exact (a1 k hk).2.2.1
    · exact fun e => by have := (h1.oo.lt _ e).1; omega
  have m0 : ∀ k, nv'.ownBlock = some k → cv.ownBlock ≠ some k := fun k hk => by
    rcases hat k hk with e | e
    · exact n0 k (Or.inl e)
    · exact fun e2 => by have := (h1.oc.lt _ e2).2; omega
  have m1 : ∀ k, nv'.ownBlock = some k → mv.ownBlock ≠ some k := fun k hk => by
    rcases hat k hk with e | e
    · exact n1 k (Or.inl e)
    · exact fun e2 => by have := (h1.om.lt _ e2).2; omega
  have m2 : ∀ k, nv'.ownBlock = some k → ov.ownBlock ≠ some k := fun k hk => by
    rcases hat k hk with e | e
    · exact n2 k (Or.inl e)
    · exact fun e2 => by have := (h1.oo.lt _ e2).2; omega
  have mI : ∀ k, nv'.ownBlock = some k → ¬ I k := fun k hk => by
    rcases hat k hk with e | e
    · exact (hi k (Or.inl e)).2
    · exact fun e2 => by have := hI k e2; omega
  refine ⟨(h1.bx.cg c5 (fun k hk => (g5 k hk).1)).set0 _, by rw [List.length_append, List.length_singleton, strs_app]; exact row_set ho _ _ (fun e => by have := (ho.lt _ e).1; simp only at this; omega), row_cg h1.oc cs (fun k e hf => n0 k hf e), row_cg h1.om cs (fun k e hf => n1 k hf e), row_cg h1.oo cs (fun k e hf => n2 k hf e), ?_, ?_, ?_, ⟨fun k hk => ⟨m0 k hk, m1 k hk, m2 k hk, mI k hk⟩, a2, a3, a4⟩, h1.iI, ?_, ?_, fun y hy => (List.mem_append.1 hy).elim (fun m => h1.ns y m) (fun m => by rw [List.mem_singleton.1 m]; exact hxs), h1.cs⟩
  · intro x hx; obtain ⟨a, d, e, f⟩ := h1.ic x hx; exact ⟨a, d, e, f.cg cs hi⟩
  · intro x hx; obtain ⟨a, d, e, f, p, q⟩ := h1.im x hx; exact ⟨a, d, e, f, p.cg cs hi, q.cg cs hi⟩
  · intro y hy; obtain ⟨a, d, e⟩ := h1.io y hy; exact ⟨a, d, e.cg cs hi⟩
  · exact h1.ct
  · obtain ⟨p, q, r, t⟩ := h1.cn; exact ⟨by rw [List.length_append, List.length_singleton]; omega, by omega, by omega, by omega⟩
theorem OU.pusho {wA w5 : World} {ov' : Value} {x : ObjA × Value} (h : OU w0 wr I b N T M O nv cv mv ov main) (hA : Below wr.heap.size wr wA) (ho : w5.ownsRow (w0.heap.size + 2) 55 2 ov' (O.length + 1) (ob2s O ++ ob2s [x])) (hg : wA.grownBy w5 ov.ownBlock) (hat : ∀ k, ov'.ownBlock = some k → ov.ownBlock = some k ∨ k = wA.heap.size) (hI : ∀ k, I k → k < wA.heap.size) (hle : O.length + 1 ≤ b) (hx : In64 x.1.cls ∧ x.1.flds.length ≤ b ∧ StP w0.heap.size I wr x.2 x.1.flds) : OU w0 (w5.setCell ⟨w0.heap.size, 3, none⟩ ov') I b N T M (O ++ [x]) nv cv mv ov' main := by
  have h1 := h.up hA
  obtain ⟨a1, a2, a3, a4⟩ := h1.ap
  have hs := h1.bx.sz
  have c5 : Cg (fun k => ov.ownBlock = some k) wA w5 := (Cg.refl (fun k => ov.ownBlock = some k) wA).grown hg (fun k hk => Or.inl hk)
  have g5 : ∀ k, ov.ownBlock = some k → w0.heap.size + 2 ≤ k ∧ k < wA.heap.size := fun k hk => h1.oo.lt k hk
  have hl5 := hg.size
  have cs : Cg (fun k => ov.ownBlock = some k ∨ k = w0.heap.size) wA (w5.setCell ⟨w0.heap.size, 3, none⟩ ov') := Cg.set (F := fun k => ov.ownBlock = some k ∨ k = w0.heap.size) (c5.mono (fun k hk => Or.inl hk)) ⟨w0.heap.size, 3, none⟩ (Or.inr rfl) _
  have hi : ∀ k, ov.ownBlock = some k ∨ k = w0.heap.size → w0.heap.size ≤ k ∧ ¬ I k := fun k hk => by
    rcases hk with hk | rfl
    · exact ⟨by have := (g5 k hk).1; omega, a4 k hk⟩
    · exact ⟨Nat.le_refl _, fun hI9 => by have := h1.iI _ hI9; omega⟩
  have n0 : ∀ k, ov.ownBlock = some k ∨ k = w0.heap.size → nv.ownBlock ≠ some k := fun k hk => by
    rcases hk with hk | rfl
    · exact fun e => (a1 _ e).2.2.1 hk
    · exact fun e => by have := (h1.on.lt _ e).1; omega
  have n1 : ∀ k, ov.ownBlock = some k ∨ k = w0.heap.size → cv.ownBlock ≠ some k := fun k hk => by
    rcases hk with hk | rfl
    · exact fun e => (a2 _ e).2.1 hk
    · exact fun e => by have := (h1.oc.lt _ e).1; omega
  have n2 : ∀ k, ov.ownBlock = some k ∨ k = w0.heap.size → mv.ownBlock ≠ some k := fun k hk => by
    rcases hk with hk | rfl
    · exact fun e => (a3 _ e).1 hk
    · exact fun e => by have := (h1.om.lt _ e).1; omega
  have m0 : ∀ k, ov'.ownBlock = some k → nv.ownBlock ≠ some k := fun k hk => by
    rcases hat k hk with e | e
    · exact n0 k (Or.inl e)
    · exact fun e2 => by have := (h1.on.lt _ e2).2; omega
  have m1 : ∀ k, ov'.ownBlock = some k → cv.ownBlock ≠ some k := fun k hk => by
    rcases hat k hk with e | e
    · exact n1 k (Or.inl e)
    · exact fun e2 => by have := (h1.oc.lt _ e2).2; omega
  have m2 : ∀ k, ov'.ownBlock = some k → mv.ownBlock ≠ some k := fun k hk => by
    rcases hat k hk with e | e
    · exact n2 k (Or.inl e)
    · exact fun e2 => by have := (h1.om.lt _ e2).2; omega
  have mI : ∀ k, ov'.ownBlock = some k → ¬ I k := fun k hk => by
    rcases hat k hk with e | e
    · exact (hi k (Or.inl e)).2
    · exact fun e2 => by have := hI k e2; omega
  refine ⟨(h1.bx.cg c5 (fun k hk => (g5 k hk).1)).set3 _, row_cg h1.on cs (fun k e hf => n0 k hf e), row_cg h1.oc cs (fun k e hf => n1 k hf e), row_cg h1.om cs (fun k e hf => n2 k hf e), by rw [List.length_append, List.length_singleton, ob2s_app]; exact row_set ho _ _ (fun e => by have := (ho.lt _ e).1; simp only at this; omega), ?_, ?_, ?_, ⟨fun k hk => ⟨(a1 k hk).1, (a1 k hk).2.1, fun e => m0 k e hk, (a1 k hk).2.2.2⟩, fun k hk => ⟨(a2 k hk).1, fun e => m1 k e hk, (a2 k hk).2.2⟩, fun k hk => ⟨fun e => m2 k e hk, (a3 k hk).2⟩, mI⟩, h1.iI, ?_, ?_, h1.ns, h1.cs⟩
  · intro x hx; obtain ⟨a, d, e, f⟩ := h1.ic x hx; exact ⟨a, d, e, f.cg cs hi⟩
  · intro x hx; obtain ⟨a, d, e, f, p, q⟩ := h1.im x hx; exact ⟨a, d, e, f, p.cg cs hi, q.cg cs hi⟩
  · intro y hy
    rcases List.mem_append.1 hy with hy | hy
    · obtain ⟨a, d, e⟩ := h1.io y hy; exact ⟨a, d, e.cg cs hi⟩
    · rw [List.mem_singleton.1 hy]
      exact ⟨hx.1, hx.2.1, (hx.2.2.cg (F := fun _ => False) (Cg.below _ hA) (fun _ e => e.elim)).cg cs hi⟩
  · obtain ⟨p, q, r⟩ := h1.ct; exact ⟨p, q, by rw [List.length_append]; omega⟩
  · obtain ⟨p, q, r, t⟩ := h1.cn; exact ⟨by omega, by omega, by omega, by rw [List.length_append, List.length_singleton]; omega⟩
theorem UnV.forms {w : World} {nv cv mv ov : Value} {U : UnitA} (h : UnV w nv cv mv ov U) : ∃ na nc ca cc ma mc oa oc, nv = .slice na U.names.length nc ∧ cv = .slice ca U.classes.length cc ∧ mv = .slice ma U.methods.length mc ∧ ov = .slice oa U.objects.length oc := by
  obtain ⟨na, nc, e1, _⟩ := h.n.ex
  obtain ⟨ca, cc, e2, _⟩ := h.c.form
  obtain ⟨ma, mc, e3, _⟩ := h.m.ex
  obtain ⟨oa, oc, e4, _⟩ := h.o.form
  exact ⟨na, nc, ca, cc, ma, mc, oa, oc, e1, e2, e3, e4⟩
theorem UnV.unk {w : World} {nv cv mv ov : Value} {U : UnitA} (h : UnV w nv cv mv ov U) : UnK w (.agg #[nv, cv, mv, ov, .int .i64 U.main]) U := by
  obtain ⟨na, nc, ca, cc, ma, mc, oa, oc, rfl, rfl, rfl, rfl⟩ := h.forms
  exact ⟨⟨na, nc, ca, cc, ma, mc, oa, oc, rfl, h⟩⟩
/-- what a box that is turned last holds -/
theorem OUf.last {w0 wx : World} {nv cv mv ov : Value} {U : UnitA} (hO : OB w0 wx nv cv mv ov U.main) (hU : ∀ w2, Cg (fun k => k = w0.heap.size + 1) wx w2 → UnV w2 nv cv mv ov U) (u0 u1 u2 u3 u4 : Value) : UnV (set5 wx (w0.heap.size + 1) u0 u1 u2 u3 u4) nv cv mv ov U ∧ Below w0.heap.size w0 (set5 wx (w0.heap.size + 1) u0 u1 u2 u3 u4) := by
  have c : Cg (fun k => k = w0.heap.size + 1) wx (set5 wx (w0.heap.size + 1) u0 u1 u2 u3 u4) := by
    unfold set5 set4
    exact (((((Cg.refl (fun k => k = w0.heap.size + 1) wx).set ⟨w0.heap.size + 1, 0, none⟩ rfl u0).set ⟨w0.heap.size + 1, 1, none⟩ rfl u1).set ⟨w0.heap.size + 1, 2, none⟩ rfl u2).set ⟨w0.heap.size + 1, 3, none⟩ rfl u3).set ⟨w0.heap.size + 1, 4, none⟩ rfl u4
  exact ⟨hU _ c, below_cg hO.bel c (fun k hk => by omega)⟩
theorem row_own {w : World} {base size n k : Nat} {e : TypeId} {v : Value} {xs : List Value} (h : w.ownsRow base e size v n xs) (hk : v.ownBlock = some k) : ∃ c, v = .slice (some ⟨k, 0, none⟩) n c := by
  rcases h.2 with ⟨rfl, h0⟩ | ⟨g, cap, cur, rfl, _⟩
  · cases hk
  · have : g = k := by simpa [Value.ownBlock] using hk
    subst this
    exact ⟨cap, rfl⟩
end
end Wd
end Go.Proofs.YtgfdgdbkifkehaaGreat

/- What the laws ask of the package; its answers are the document's own. -/
namespace Go.Proofs.YtgfdgdbkifkehaaGreat
open Go.RowKit
set_option linter.unusedVariables false
set_option maxRecDepth 20000
namespace Wd
/-- a row, if it has any cell, lies in a block from s on that may be written -/
def Fr (s : Nat) (w : World) (v : Value) : Prop := ∀ g off n cap, v = .slice (some ⟨g, off, none⟩) n cap → 0 < n → s ≤ g ∧ ∀ j, w.frozen? ⟨g, j, none⟩ = false
/-- .. and the rows of its elements -/
def FrAt (s : Nat) (w : World) (v : Value) (n size k : Nat) : Prop := ∀ g off m cap i b, v = .slice (some ⟨g, off, none⟩) m cap → i < n → w.cell? ⟨g, off + i * size + k, none⟩ = some b → Fr s w b
/-- a program of new memory -/
structure CpN (s : Nat) (w : World) (nv cv mv ov : Value) (U : UnitA) : Prop where
  un : UnV w nv cv mv ov U
  fn : Fr s w nv
  fc : Fr s w cv
  fm : Fr s w mv
  fo : Fr s w ov
  bc : FrAt s w cv U.classes.length 4 3
  bl : FrAt s w mv U.methods.length 4 2
  bk : FrAt s w mv U.methods.length 4 3
  bf : FrAt s w ov U.objects.length 2 1
/-- how much of each there may be, for what is asked of it -/
structure Sz (U : UnitA) : Prop where
  nn : U.names.length ≤ 100000
  nc : U.classes.length ≤ 100000
  nm : U.methods.length ≤ 100000
  no : U.objects.length ≤ 100000
  bs : ∀ c ∈ U.classes, c.binds.length ≤ 8796093022208
  ms : ∀ m ∈ U.methods, m.lits.length ≤ 8796093022208 ∧ m.code.length ≤ 140737488355328
  os : ∀ o ∈ U.objects, o.flds.length ≤ 8796093022208
  ns : ∀ x ∈ U.names, x.size ≤ 140737488355328
  cs : ∀ x ∈ U.classes, x.nm.size ≤ 140737488355328
structure UnitK : Prop where
  right : ∀ {w : World} {u : Value} {U : UnitA}, UnK w u U → Calls Tryz.prog 7 #[u] w fun e w' => e = .returned (.int .i64 (unitR U)) ∧ Below w.heap.size w w'
  find : ∀ {w : World} {u : Value} {U : UnitA}, UnK w u U → ∀ (cls sel : Int), In64 cls → In64 sel → Calls Tryz.prog 25 #[u, .int .i64 cls, .int .i64 sel] w fun e w' => e = .returned (.int .i64 (findU U.classes cls sel)) ∧ Below w.heap.size w w'
  words : ∀ {w : World} {u : Value} {U : UnitA}, UnK w u U → U.objects.length ≤ 1000000 → Calls Tryz.prog 27 #[u] w fun e w' => e = .returned (.int .i64 (wordsB U.objects)) ∧ Below w.heap.size w w'
  same : ∀ {w : World} {u v : Value} {U V : UnitA}, UnK w u U → UnK w v V → Calls Tryz.prog 12 #[u, v] w fun e w' => e = .returned (.bool (sameU U V)) ∧ Below w.heap.size w w'
  copy : ∀ {w : World} {u : Value} {U : UnitA}, UnK w u U → Sz U → Calls Tryz.prog 29 #[u] w fun e w' => ∃ nv cv mv ov, e = .returned (.agg #[nv, cv, mv, ov, .int .i64 U.main]) ∧ CpN w.heap.size w' nv cv mv ov U ∧ Below w.heap.size w w'
theorem range5 {w : World} {q : Nat} {a b c d e : Value} (h0 : w.cell? ⟨q, 0, none⟩ = some a) (h1 : w.cell? ⟨q, 1, none⟩ = some b) (h2 : w.cell? ⟨q, 2, none⟩ = some c) (h3 : w.cell? ⟨q, 3, none⟩ = some d) (h4 : w.cell? ⟨q, 4, none⟩ = some e) : w.rangeAt q 0 [a, b, c, d, e] := by
  intro j v hj
  match j, hj with
  | 0, hj => simp at hj; subst hj; exact h0
  | 1, hj => simp at hj; subst hj; exact h1
  | 2, hj => simp at hj; subst hj; exact h2
  | 3, hj => simp at hj; subst hj; exact h3
  | 4, hj => simp at hj; subst hj; exact h4
  | j + 5, hj => simp at hj
theorem UnB.range {w : World} {q : Nat} {u : Value} {U : UnitA} {na ka ma oa : Option Addr} {nc kc mc oc : Nat} (h : UnB w q u U na ka ma oa nc kc mc oc) : w.rangeAt q 0 [.slice na U.names.length nc, .slice ka U.classes.length kc, .slice ma U.methods.length mc, .slice oa U.objects.length oc, .int .i64 U.main] := range5 h.c0 h.c1 h.c2 h.c3 h.c4
theorem rowU : ∃ d, Tryz.prog.underlying 27 = some d ∧ d.isRow = true := ⟨_, Tryz.underlying27, rfl⟩
theorem infoU : (Tryz.prog.info? 27).map (fun i => i.size) = some 5 := by kernel_rfl
/-- a program's box, of the call's own -/
structure SmB (w wr : World) (u : Value) (U : UnitA) (na ka ma oa : Option Addr) (nc kc mc oc : Nat) : Prop where
  b : UnB wr w.heap.size u U na ka ma oa nc kc mc oc
  bel : Below w.heap.size w wr
theorem SmB.up {w wr w2 : World} {u : Value} {U : UnitA} {na ka ma oa : Option Addr} {nc kc mc oc : Nat} (h : SmB w wr u U na ka ma oa nc kc mc oc) (b : Below wr.heap.size wr w2) : SmB w w2 u U na ka ma oa nc kc mc oc := ⟨h.b.up b, h.bel.trans (b.mono h.bel.size)⟩
set_option maxHeartbeats 32000000 in
theorem usame_c (K : UnitK) {w : World} {u : Value} {U : UnitA} (hu : UnK w u U) (hz : Sz U) (cls sel : Int) (hc : In64 cls) (hs : In64 sel) :
    Calls Tryz.prog 8 #[u, .int .i64 cls, .int .i64 sel] w fun e w' => e = .returned (.bool true) ∧ Below w.heap.size w w' := by
  obtain ⟨na, nc, ka, kc, ma, mc, oa, oc, rfl, hU⟩ := hu.ex
  have hw := (Below.refl w.heap.size w).alloc (Nat.le_refl _) (.cells #[.slice na U.names.length nc, .slice ka U.classes.length kc, .slice ma U.methods.length mc, .slice oa U.objects.length oc, .int .i64 U.main] 27)
  have hS : Hid (SmB w (w.alloc (.cells #[.slice na U.names.length nc, .slice ka U.classes.length kc, .slice ma U.methods.length mc, .slice oa U.objects.length oc, .int .i64 U.main] 27)) (.agg #[.slice na U.names.length nc, .slice ka U.classes.length kc, .slice ma U.methods.length mc, .slice oa U.objects.length oc, .int .i64 U.main]) U na ka ma oa nc kc mc oc) := Lib.hid ⟨⟨rfl, by simp, by simp, by simp, by simp, by simp, hu.up hw⟩, hw⟩
  have PR := Lib.hid (fun (w' : World) (h : UnK w' (.agg #[.slice na U.names.length nc, .slice ka U.classes.length kc, .slice ma U.methods.length mc, .slice oa U.objects.length oc, .int .i64 U.main]) U) => K.right h)
  have PR2 := Lib.hid (fun (w' : World) (h : UnK w' (.agg #[.slice na U.names.length nc, .slice ka U.classes.length kc, .slice ma U.methods.length mc, .slice oa U.objects.length oc, .int .i64 U.main]) U) => runit_c h)
  have PF := Lib.hid (fun (w' : World) (h : UnK w' (.agg #[.slice na U.names.length nc, .slice ka U.classes.length kc, .slice ma U.methods.length mc, .slice oa U.objects.length oc, .int .i64 U.main]) U) => K.find h cls sel hc hs)
  have PF2 := Lib.hid (fun (w' : World) (h : UnK w' (.agg #[.slice na U.names.length nc, .slice ka U.classes.length kc, .slice ma U.methods.length mc, .slice oa U.objects.length oc, .int .i64 U.main]) U) => rfind_c h cls sel hc hs)
  have PW := Lib.hid (fun (w' : World) (h : UnK w' (.agg #[.slice na U.names.length nc, .slice ka U.classes.length kc, .slice ma U.methods.length mc, .slice oa U.objects.length oc, .int .i64 U.main]) U) => K.words h (by have := hz.no; omega))
  have PW2 := Lib.hid (fun (w' : World) (h : UnK w' (.agg #[.slice na U.names.length nc, .slice ka U.classes.length kc, .slice ma U.methods.length mc, .slice oa U.objects.length oc, .int .i64 U.main]) U) => rwordsU_c h (by have := hz.no; omega))
  have PS := Lib.hid (fun (w' : World) (h : UnK w' (.agg #[.slice na U.names.length nc, .slice ka U.classes.length kc, .slice ma U.methods.length mc, .slice oa U.objects.length oc, .int .i64 U.main]) U) => K.same h h)
  have PC := Lib.hid (fun (w' : World) (h : UnK w' (.agg #[.slice na U.names.length nc, .slice ka U.classes.length kc, .slice ma U.methods.length mc, .slice oa U.objects.length oc, .int .i64 U.main]) U) => K.copy h hz)
  have PS2 := Lib.hid (fun (w' : World) (v : Value) (h : UnK w' v U) (h2 : UnK w' (.agg #[.slice na U.names.length nc, .slice ka U.classes.length kc, .slice ma U.methods.length mc, .slice oa U.objects.length oc, .int .i64 U.main]) U) => rsame_c h h2)
  rw [sameU_self] at PS PS2
  generalize unitR U = ra at *
  generalize findU U.classes cls sel = rf at *
  generalize wordsB U.objects = rw0 at *
  clear hu hU hw hc hs hz
  obtain ⟨dU, hdU, hrU⟩ := rowU
  replace hdU := Lib.hid hdU
  replace hrU := Lib.hid hrU
  go_enter Tryz.func8, Tryz.ntmps8
  go_upto_region 1 with fail
  generalize w.alloc (.cells #[.slice na U.names.length nc, .slice ka U.classes.length kc, .slice ma U.methods.length mc, .slice oa U.objects.length oc, .int .i64 U.main] 27) = W at *
  replace hS := Lib.hid (hS.out.up ((Below.refl _ _).drew))
  refine wp_region_held_drew (S := (fun wr' => SmB w wr' (.agg #[.slice na U.names.length nc, .slice ka U.classes.length kc, .slice ma U.methods.length mc, .slice oa U.objects.length oc, .int .i64 U.main]) U na ka ma oa nc kc mc oc)) (by kernel_rfl) ?_ (fun hHeld => ?_)
  · (try dsimp only); exact hS.out
  try simp only [Act.put, nA]
  refine tr (i := 0) (oi := ⟨some 7, .load 27 (.tmp 3), 27, "law.go:85", #[], none⟩) (v := (.agg #[.slice na U.names.length nc, .slice ka U.classes.length kc, .slice ma U.methods.length mc, .slice oa U.objects.length oc, .int .i64 U.main])) (yieldsIf_load_mid (by rfl) _ _ rfl w.heap.size 0 rfl [.slice na U.names.length nc, .slice ka U.classes.length kc, .slice ma U.methods.length mc, .slice oa U.objects.length oc, .int .i64 U.main] dU (fun w hw => hw.b.range) hdU.out hrU.out infoU) ?_
  try simp only [Act.put, nA]
  refine tr (i := 2) (oi := ⟨some 9, .load 27 (.tmp 3), 27, "law.go:85", #[], none⟩) (v := (.agg #[.slice na U.names.length nc, .slice ka U.classes.length kc, .slice ma U.methods.length mc, .slice oa U.objects.length oc, .int .i64 U.main])) (yieldsIf_load_mid (by rfl) _ _ rfl w.heap.size 0 rfl [.slice na U.names.length nc, .slice ka U.classes.length kc, .slice ma U.methods.length mc, .slice oa U.objects.length oc, .int .i64 U.main] dU (fun w hw => hw.b.range) hdU.out hrU.out infoU) ?_
  try simp only [Act.put, nA]
  refine wpAnyH_ready (rs := [1]) (by kernel_rfl) (by simp) ?_
  refine AllReadyH.cons (o := ⟨some 8, .call { callee := .value (.func 7), args := #[.tmp 7], argTypes := #[27] }, 34, "law.go:85", #[⟨0, .data⟩], none⟩) rfl (fun K9 hK => ?_) ?_
  · go_simp
    with_reducible refine (PR.out _ hS.out.b.un).mono ?_
    rintro e y1 ⟨rfl, hb⟩
    replace hS := Lib.hid (hS.out.up hb)
    clear hb
    go_wp2_with fail
    refine hK.out _ _ ?_ ?_
    · (try dsimp only); exact hS.out
    clear hK K9 hHeld; intro hHeld
    try simp only [Act.put, nA]
    refine wpAnyH_ready (rs := [3]) (by kernel_rfl) (by simp) ?_
    refine AllReadyH.cons (o := ⟨some 10, .call { callee := .value (.func 24), args := #[.tmp 9], argTypes := #[27] }, 34, "law.go:85", #[⟨2, .data⟩, ⟨1, .chain⟩], none⟩) rfl (fun K9 hK => ?_) ?_
    · go_simp
      with_reducible refine (PR2.out _ hS.out.b.un).mono ?_
      rintro e y1 ⟨rfl, hb⟩
      replace hS := Lib.hid (hS.out.up hb)
      clear hb
      go_wp2_with fail
      refine hK.out _ _ ?_ ?_
      · (try dsimp only); exact hS.out
      clear hK K9 hHeld; intro hHeld
      try simp only [Act.put, nA]
      refine tk (i := 4) (oi := ⟨some 11, .binOp .eql 34 (.tmp 8) (.tmp 10) 34, 4, "law.go:85", #[⟨1, .data⟩, ⟨3, .data⟩], none⟩) ?_
      try simp only [Act.put, nA]
      refine tk (i := 5) (oi := ⟨some 12, .move (.tmp 11), 4, "law.go:85", #[⟨4, .data⟩, ⟨3, .chain⟩], none⟩) ?_
      try simp only [Act.put, nA]
      refine tr (i := 6) (oi := ⟨some 13, .load 27 (.tmp 3), 27, "law.go:85", #[⟨5, .guard⟩], some (5, true)⟩) (v := (.agg #[.slice na U.names.length nc, .slice ka U.classes.length kc, .slice ma U.methods.length mc, .slice oa U.objects.length oc, .int .i64 U.main])) (yieldsIf_load_mid (by rfl) _ _ rfl w.heap.size 0 rfl [.slice na U.names.length nc, .slice ka U.classes.length kc, .slice ma U.methods.length mc, .slice oa U.objects.length oc, .int .i64 U.main] dU (fun w hw => hw.b.range) hdU.out hrU.out infoU) ?_
      try simp only [Act.put, nA]
      refine tr (i := 10) (oi := ⟨some 17, .load 27 (.tmp 3), 27, "law.go:85", #[⟨5, .guard⟩], some (5, true)⟩) (v := (.agg #[.slice na U.names.length nc, .slice ka U.classes.length kc, .slice ma U.methods.length mc, .slice oa U.objects.length oc, .int .i64 U.main])) (yieldsIf_load_mid (by rfl) _ _ rfl w.heap.size 0 rfl [.slice na U.names.length nc, .slice ka U.classes.length kc, .slice ma U.methods.length mc, .slice oa U.objects.length oc, .int .i64 U.main] dU (fun w hw => hw.b.range) hdU.out hrU.out infoU) ?_
      try simp only [Act.put, nA]
      refine tk (i := 7) (oi := ⟨some 14, .move (.tmp 1), 3, "law.go:85", #[⟨5, .guard⟩], some (5, true)⟩) ?_
      try simp only [Act.put, nA]
      refine tk (i := 8) (oi := ⟨some 15, .move (.tmp 2), 3, "law.go:85", #[⟨5, .guard⟩], some (5, true)⟩) ?_
      try simp only [Act.put, nA]
      refine tk (i := 11) (oi := ⟨some 18, .move (.tmp 1), 3, "law.go:85", #[⟨5, .guard⟩], some (5, true)⟩) ?_
      try simp only [Act.put, nA]
      refine tk (i := 12) (oi := ⟨some 19, .move (.tmp 2), 3, "law.go:85", #[⟨5, .guard⟩], some (5, true)⟩) ?_
      try simp only [Act.put, nA]
      refine wpAnyH_ready (rs := [9]) (by kernel_rfl) (by simp) ?_
      refine AllReadyH.cons (o := ⟨some 16, .call { callee := .value (.func 25), args := #[.tmp 13, .tmp 14, .tmp 15], argTypes := #[27, 3, 3] }, 3, "law.go:85", #[⟨6, .data⟩, ⟨7, .data⟩, ⟨8, .data⟩, ⟨5, .chain⟩, ⟨5, .guard⟩], some (5, true)⟩) rfl (fun K9 hK => ?_) ?_
      · go_simp
        with_reducible refine (PF.out _ hS.out.b.un).mono ?_
        rintro e y1 ⟨rfl, hb⟩
        replace hS := Lib.hid (hS.out.up hb)
        clear hb
        go_wp2_with fail
        refine hK.out _ _ ?_ ?_
        · (try dsimp only); exact hS.out
        clear hK K9 hHeld; intro hHeld
        try simp only [Act.put, nA]
        refine wpAnyH_ready (rs := [13]) (by kernel_rfl) (by simp) ?_
        refine AllReadyH.cons (o := ⟨some 20, .call { callee := .value (.func 26), args := #[.tmp 17, .tmp 18, .tmp 19], argTypes := #[27, 3, 3] }, 3, "law.go:85", #[⟨10, .data⟩, ⟨11, .data⟩, ⟨12, .data⟩, ⟨9, .chain⟩, ⟨5, .guard⟩], some (5, true)⟩) rfl (fun K9 hK => ?_) ?_
        · go_simp
          with_reducible refine (PF2.out _ hS.out.b.un).mono ?_
          rintro e y1 ⟨rfl, hb⟩
          replace hS := Lib.hid (hS.out.up hb)
          clear hb
          go_wp2_with fail
          refine hK.out _ _ ?_ ?_
          · (try dsimp only); exact hS.out
          clear hK K9 hHeld; intro hHeld
          try simp only [Act.put, nA]
          refine tk (i := 14) (oi := ⟨some 21, .binOp .eql 3 (.tmp 16) (.tmp 20) 3, 4, "law.go:85", #[⟨9, .data⟩, ⟨13, .data⟩, ⟨5, .guard⟩], some (5, true)⟩) ?_
          try simp only [Act.put, nA]
          refine tk (i := 15) (oi := ⟨some 22, .pick (.tmp 12) (.tmp 21) (.const (.bool false)), 4, "law.go:85", #[⟨5, .data⟩, ⟨14, .data⟩], none⟩) ?_
          try simp only [Act.put, nA]
          refine tk (i := 16) (oi := ⟨some 23, .move (.tmp 22), 4, "law.go:85", #[⟨15, .data⟩, ⟨13, .chain⟩], none⟩) ?_
          try simp only [Act.put, nA]
          refine tr (i := 17) (oi := ⟨some 24, .load 27 (.tmp 3), 27, "law.go:85", #[⟨16, .guard⟩], some (16, true)⟩) (v := (.agg #[.slice na U.names.length nc, .slice ka U.classes.length kc, .slice ma U.methods.length mc, .slice oa U.objects.length oc, .int .i64 U.main])) (yieldsIf_load_mid (by rfl) _ _ rfl w.heap.size 0 rfl [.slice na U.names.length nc, .slice ka U.classes.length kc, .slice ma U.methods.length mc, .slice oa U.objects.length oc, .int .i64 U.main] dU (fun w hw => hw.b.range) hdU.out hrU.out infoU) ?_
          try simp only [Act.put, nA]
          refine tr (i := 19) (oi := ⟨some 26, .load 27 (.tmp 3), 27, "law.go:85", #[⟨16, .guard⟩], some (16, true)⟩) (v := (.agg #[.slice na U.names.length nc, .slice ka U.classes.length kc, .slice ma U.methods.length mc, .slice oa U.objects.length oc, .int .i64 U.main])) (yieldsIf_load_mid (by rfl) _ _ rfl w.heap.size 0 rfl [.slice na U.names.length nc, .slice ka U.classes.length kc, .slice ma U.methods.length mc, .slice oa U.objects.length oc, .int .i64 U.main] dU (fun w hw => hw.b.range) hdU.out hrU.out infoU) ?_
          try simp only [Act.put, nA]
          refine wpAnyH_ready (rs := [18]) (by kernel_rfl) (by simp) ?_
          refine AllReadyH.cons (o := ⟨some 25, .call { callee := .value (.func 27), args := #[.tmp 24], argTypes := #[27] }, 3, "law.go:85", #[⟨17, .data⟩, ⟨16, .chain⟩, ⟨16, .guard⟩], some (16, true)⟩) rfl (fun K9 hK => ?_) ?_
          · go_simp
            with_reducible refine (PW.out _ hS.out.b.un).mono ?_
            rintro e y1 ⟨rfl, hb⟩
            replace hS := Lib.hid (hS.out.up hb)
            clear hb
            go_wp2_with fail
            refine hK.out _ _ ?_ ?_
            · (try dsimp only); exact hS.out
            clear hK K9 hHeld; intro hHeld
            try simp only [Act.put, nA]
            refine wpAnyH_ready (rs := [20]) (by kernel_rfl) (by simp) ?_
            refine AllReadyH.cons (o := ⟨some 27, .call { callee := .value (.func 28), args := #[.tmp 26], argTypes := #[27] }, 3, "law.go:85", #[⟨19, .data⟩, ⟨18, .chain⟩, ⟨16, .guard⟩], some (16, true)⟩) rfl (fun K9 hK => ?_) ?_
            · go_simp
              with_reducible refine (PW2.out _ hS.out.b.un).mono ?_
              rintro e y1 ⟨rfl, hb⟩
              replace hS := Lib.hid (hS.out.up hb)
              clear hb
              go_wp2_with fail
              refine hK.out _ _ ?_ ?_
              · (try dsimp only); exact hS.out
              clear hK K9 hHeld; intro hHeld
              try simp only [Act.put, nA]
              refine tk (i := 21) (oi := ⟨some 28, .binOp .eql 3 (.tmp 25) (.tmp 27) 3, 4, "law.go:85", #[⟨18, .data⟩, ⟨20, .data⟩, ⟨16, .guard⟩], some (16, true)⟩) ?_
              try simp only [Act.put, nA]
              refine tk (i := 22) (oi := ⟨some 29, .pick (.tmp 23) (.tmp 28) (.const (.bool false)), 4, "law.go:85", #[⟨16, .data⟩, ⟨21, .data⟩], none⟩) ?_
              try simp only [Act.put, nA]
              refine tk (i := 23) (oi := ⟨some 30, .move (.tmp 29), 4, "law.go:85", #[⟨22, .data⟩, ⟨20, .chain⟩], none⟩) ?_
              try simp only [Act.put, nA]
              refine tr (i := 24) (oi := ⟨some 31, .load 27 (.tmp 3), 27, "law.go:85", #[⟨23, .guard⟩], some (23, true)⟩) (v := (.agg #[.slice na U.names.length nc, .slice ka U.classes.length kc, .slice ma U.methods.length mc, .slice oa U.objects.length oc, .int .i64 U.main])) (yieldsIf_load_mid (by rfl) _ _ rfl w.heap.size 0 rfl [.slice na U.names.length nc, .slice ka U.classes.length kc, .slice ma U.methods.length mc, .slice oa U.objects.length oc, .int .i64 U.main] dU (fun w hw => hw.b.range) hdU.out hrU.out infoU) ?_
              try simp only [Act.put, nA]
              refine tr (i := 25) (oi := ⟨some 32, .load 27 (.tmp 3), 27, "law.go:85", #[⟨23, .guard⟩], some (23, true)⟩) (v := (.agg #[.slice na U.names.length nc, .slice ka U.classes.length kc, .slice ma U.methods.length mc, .slice oa U.objects.length oc, .int .i64 U.main])) (yieldsIf_load_mid (by rfl) _ _ rfl w.heap.size 0 rfl [.slice na U.names.length nc, .slice ka U.classes.length kc, .slice ma U.methods.length mc, .slice oa U.objects.length oc, .int .i64 U.main] dU (fun w hw => hw.b.range) hdU.out hrU.out infoU) ?_
              try simp only [Act.put, nA]
              refine wpAnyH_ready (rs := [26]) (by kernel_rfl) (by simp) ?_
              refine AllReadyH.cons (o := ⟨some 33, .call { callee := .value (.func 12), args := #[.tmp 31, .tmp 32], argTypes := #[27, 27] }, 4, "law.go:85", #[⟨24, .data⟩, ⟨25, .data⟩, ⟨23, .chain⟩, ⟨23, .guard⟩], some (23, true)⟩) rfl (fun K9 hK => ?_) ?_
              · go_simp
                with_reducible refine (PS.out _ hS.out.b.un).mono ?_
                rintro e y1 ⟨rfl, hb⟩
                replace hS := Lib.hid (hS.out.up hb)
                clear hb
                go_wp2_with fail
                refine hK.out _ _ ?_ ?_
                · (try dsimp only); exact hS.out
                clear hK K9 hHeld; intro hHeld
                try simp only [Act.put, nA]
                refine tk (i := 27) (oi := ⟨some 34, .pick (.tmp 30) (.tmp 33) (.const (.bool false)), 4, "law.go:85", #[⟨23, .data⟩, ⟨26, .data⟩], none⟩) ?_
                try simp only [Act.put, nA]
                refine tk (i := 28) (oi := ⟨some 35, .move (.tmp 34), 4, "law.go:85", #[⟨27, .data⟩, ⟨26, .chain⟩], none⟩) ?_
                try simp only [Act.put, nA]
                refine tr (i := 29) (oi := ⟨some 36, .load 27 (.tmp 3), 27, "law.go:85", #[⟨28, .guard⟩], some (28, true)⟩) (v := (.agg #[.slice na U.names.length nc, .slice ka U.classes.length kc, .slice ma U.methods.length mc, .slice oa U.objects.length oc, .int .i64 U.main])) (yieldsIf_load_mid (by rfl) _ _ rfl w.heap.size 0 rfl [.slice na U.names.length nc, .slice ka U.classes.length kc, .slice ma U.methods.length mc, .slice oa U.objects.length oc, .int .i64 U.main] dU (fun w hw => hw.b.range) hdU.out hrU.out infoU) ?_
                try simp only [Act.put, nA]
                refine tr (i := 31) (oi := ⟨some 38, .load 27 (.tmp 3), 27, "law.go:85", #[⟨28, .guard⟩], some (28, true)⟩) (v := (.agg #[.slice na U.names.length nc, .slice ka U.classes.length kc, .slice ma U.methods.length mc, .slice oa U.objects.length oc, .int .i64 U.main])) (yieldsIf_load_mid (by rfl) _ _ rfl w.heap.size 0 rfl [.slice na U.names.length nc, .slice ka U.classes.length kc, .slice ma U.methods.length mc, .slice oa U.objects.length oc, .int .i64 U.main] dU (fun w hw => hw.b.range) hdU.out hrU.out infoU) ?_
                try simp only [Act.put, nA]
                refine wpAnyH_ready (rs := [30]) (by kernel_rfl) (by simp) ?_
                refine AllReadyH.cons (o := ⟨some 37, .call { callee := .value (.func 29), args := #[.tmp 36], argTypes := #[27] }, 27, "law.go:85", #[⟨29, .data⟩, ⟨28, .chain⟩, ⟨28, .guard⟩], some (28, true)⟩) rfl (fun K9 hK => ?_) ?_
                · go_simp
                  with_reducible refine (PC.out _ hS.out.b.un).mono ?_
                  rintro e y1 ⟨nv, cv, mv, ov, rfl, hcp, hb⟩
                  replace hS := Lib.hid (hS.out.up hb)
                  have hcq := Lib.hid hcp.un.unk
                  clear hb hcp
                  go_wp2_with fail
                  refine hK.out _ _ ?_ ?_
                  · (try dsimp only); exact hS.out
                  clear hK K9 hHeld; intro hHeld
                  try simp only [Act.put, nA]
                  refine wpAnyH_ready (rs := [32]) (by kernel_rfl) (by simp) ?_
                  refine AllReadyH.cons (o := ⟨some 39, .call { callee := .value (.func 13), args := #[.tmp 37, .tmp 38], argTypes := #[27, 27] }, 4, "law.go:85", #[⟨30, .data⟩, ⟨31, .data⟩, ⟨30, .chain⟩, ⟨28, .guard⟩], some (28, true)⟩) rfl (fun K9 hK => ?_) ?_
                  · go_simp
                    with_reducible refine (PS2.out _ _ hcq.out hS.out.b.un).mono ?_
                    rintro e y1 ⟨rfl, hb⟩
                    replace hS := Lib.hid (hS.out.up hb)
                    clear hb
                    go_wp2_with fail
                    refine hK.out _ _ ?_ ?_
                    · (try dsimp only); exact hS.out
                    clear hK K9 hHeld; intro hHeld
                    try simp only [Act.put, nA]
                    refine tk (i := 33) (oi := ⟨some 40, .pick (.tmp 35) (.tmp 39) (.const (.bool false)), 4, "law.go:85", #[⟨28, .data⟩, ⟨32, .data⟩], none⟩) ?_
                    try simp only [Act.put, nA]
                    refine tk (i := 34) (oi := ⟨some 6, .assign (.tmp 40), 4, "law.go:85", #[⟨33, .data⟩, ⟨32, .chain⟩, ⟨0, .phase⟩, ⟨1, .phase⟩, ⟨2, .phase⟩, ⟨3, .phase⟩, ⟨4, .phase⟩, ⟨5, .phase⟩, ⟨6, .phase⟩, ⟨7, .phase⟩, ⟨8, .phase⟩, ⟨9, .phase⟩, ⟨10, .phase⟩, ⟨11, .phase⟩, ⟨12, .phase⟩, ⟨13, .phase⟩, ⟨14, .phase⟩, ⟨15, .phase⟩, ⟨16, .phase⟩, ⟨17, .phase⟩, ⟨18, .phase⟩, ⟨19, .phase⟩, ⟨20, .phase⟩, ⟨21, .phase⟩, ⟨22, .phase⟩, ⟨23, .phase⟩, ⟨24, .phase⟩, ⟨25, .phase⟩, ⟨26, .phase⟩, ⟨27, .phase⟩, ⟨28, .phase⟩, ⟨29, .phase⟩, ⟨30, .phase⟩, ⟨31, .phase⟩, ⟨32, .phase⟩, ⟨33, .phase⟩], none⟩) ?_
                    try simp only [Act.put, nA]
                    refine wpAnyH_done (by kernel_rfl) ?_ _
                    go_wp2_with fail
                    go_ret
                    exact ⟨by simp, hS.out.bel⟩
                  exact AllReadyH.nil
                exact AllReadyH.nil
              exact AllReadyH.nil
            exact AllReadyH.nil
          exact AllReadyH.nil
        exact AllReadyH.nil
      exact AllReadyH.nil
    exact AllReadyH.nil
  exact AllReadyH.nil
end Wd
end Go.Proofs.YtgfdgdbkifkehaaGreat
