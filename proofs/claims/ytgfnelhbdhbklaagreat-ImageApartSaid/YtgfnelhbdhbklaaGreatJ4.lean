/- Texts joined: USA, UOA. -/
import Derived.Test.YtgfnelhbdhbklaaGreatJ3
import Derived.BigRegion
import Derived.Deep.RegionHeld3
import Derived.Deep.RegionWith
import Derived.Deep.DeepCutAuto
import Derived.Deep.CutBlock
import Derived.Maps.AppendAt
import Derived.Deep.AppendLies
/- Are two programs the same? (the document's own: the walk) -/
namespace Go.Proofs.YtgfnelhbdhbklaaGreat
open Go.RowKit
set_option linter.unusedVariables false
set_option maxRecDepth 20000
namespace Wd
set_option maxHeartbeats 32000000 in
theorem rsame_c {w : World} {a b : Value} {U V : UnitA} (ha : UnK w a U) (hb : UnK w b V) :
    Calls Tryz.prog 19 #[a, b] w fun e w' => e = .returned (.bool (sameU U V)) ∧ Below w.heap.size w w' := by
  obtain ⟨na, nc, ca, cc, ma, mc, oa, oc, rfl, ha'⟩ := ha.ex
  obtain ⟨pa, pc, qa, qc, ra, rc, sa, sc, rfl, hb'⟩ := hb.ex
  clear ha hb
  obtain ⟨_, _, e1, k1, m1, -⟩ := ha'.n.ex
  cases e1
  obtain ⟨_, _, e2, k2, m2⟩ := ha'.c.form
  cases e2
  obtain ⟨_, _, e3, k3, m3, -⟩ := ha'.m.ex
  cases e3
  obtain ⟨_, _, e4, k4, m4⟩ := ha'.o.form
  cases e4
  obtain ⟨_, _, e5, k5, m5, -⟩ := hb'.n.ex
  cases e5
  obtain ⟨_, _, e6, k6, m6⟩ := hb'.c.form
  cases e6
  obtain ⟨_, _, e7, k7, m7, -⟩ := hb'.m.ex
  cases e7
  obtain ⟨_, _, e8, k8, m8⟩ := hb'.o.form
  cases e8
  obtain ⟨v1, v2, v3, v4⟩ := ha'
  obtain ⟨v5, v6, v7, v8⟩ := hb'
  obtain ⟨l1, g1⟩ : ∃ n, n = U.names.length := ⟨_, rfl⟩
  obtain ⟨l2, g2⟩ : ∃ n, n = U.classes.length := ⟨_, rfl⟩
  obtain ⟨l3, g3⟩ : ∃ n, n = U.methods.length := ⟨_, rfl⟩
  obtain ⟨l4, g4⟩ : ∃ n, n = U.objects.length := ⟨_, rfl⟩
  obtain ⟨r1, g5⟩ : ∃ n, n = V.names.length := ⟨_, rfl⟩
  obtain ⟨r2, g6⟩ : ∃ n, n = V.classes.length := ⟨_, rfl⟩
  obtain ⟨r3, g7⟩ : ∃ n, n = V.methods.length := ⟨_, rfl⟩
  obtain ⟨r4, g8⟩ : ∃ n, n = V.objects.length := ⟨_, rfl⟩
  rw [← g1] at k1 v1 ⊢
  replace m1 := Nat.le_trans k1 m1
  rw [← g2] at k2 v2 ⊢
  replace m2 := Nat.le_trans k2 m2
  rw [← g3] at k3 v3 ⊢
  replace m3 := Nat.le_trans k3 m3
  rw [← g4] at k4 v4 ⊢
  replace m4 := Nat.le_trans k4 m4
  rw [← g5] at k5 v5 ⊢
  replace m5 := Nat.le_trans k5 m5
  rw [← g6] at k6 v6 ⊢
  replace m6 := Nat.le_trans k6 m6
  rw [← g7] at k7 v7 ⊢
  replace m7 := Nat.le_trans k7 m7
  rw [← g8] at k8 v8 ⊢
  replace m8 := Nat.le_trans k8 m8
  have hw1 := (Below.refl w.heap.size w).alloc (Nat.le_refl _) (.cells #[.slice na l1 nc, .slice ca l2 cc, .slice ma l3 mc, .slice oa l4 oc, .int .i64 U.main] 27)
  have hw2 := hw1.alloc (by simp only [World.size_alloc]; omega) (.cells #[.slice pa r1 pc, .slice qa r2 qc, .slice ra r3 rc, .slice sa r4 sc, .int .i64 V.main] 27)
  have i1 : (w.alloc (.cells #[.slice na l1 nc, .slice ca l2 cc, .slice ma l3 mc, .slice oa l4 oc, .int .i64 U.main] 27)).heap.size = w.heap.size + 1 := by simp
  have hS : Hid (S5 w ((w.alloc (.cells #[.slice na l1 nc, .slice ca l2 cc, .slice ma l3 mc, .slice oa l4 oc, .int .i64 U.main] 27)).alloc (.cells #[.slice pa r1 pc, .slice qa r2 qc, .slice ra r3 rc, .slice sa r4 sc, .int .i64 V.main] 27)) U V na nc ca cc ma mc oa oc pa pc qa qc ra rc sa sc l1 l2 l3 l4 r1 r2 r3 r4) := Lib.hid ⟨⟨(World.cell?_alloc_old _ _ _ (by simp)).trans (by simp), (World.cell?_alloc_old _ _ _ (by simp)).trans (by simp), (World.cell?_alloc_old _ _ _ (by simp)).trans (by simp), (World.cell?_alloc_old _ _ _ (by simp)).trans (by simp), (World.cell?_alloc_old _ _ _ (by simp)).trans (by simp), by rw [← i1]; simp, by rw [← i1]; simp, by rw [← i1]; simp, by rw [← i1]; simp, by rw [← i1]; simp⟩, ⟨v1.up hw2, v2.up hw2, v3.up hw2, v4.up hw2, v5.up hw2, v6.up hw2, v7.up hw2, v8.up hw2⟩, ⟨g1, g2, g3, g4, g5, g6, g7, g8⟩, ⟨m1, m2, m3, m4⟩, ⟨k1, k2, k3, k4, k5, k6, k7, k8⟩, hw2⟩
  have hmx : maxLen ≤ 9223372036854775807 := by decide
  have j1 : (l1 : Int) ≤ 9223372036854775807 := by omega
  have j2 : (l2 : Int) ≤ 9223372036854775807 := by omega
  have j3 : (l3 : Int) ≤ 9223372036854775807 := by omega
  have j4 : (l4 : Int) ≤ 9223372036854775807 := by omega
  clear hw1 hw2 i1 hmx g1 g2 g3 g4 g5 g6 g7 g8 k1 k2 k3 k4 k5 k6 k7 k8 m1 m2 m3 m4 m5 m6 m7 m8 v1 v2 v3 v4 v5 v6 v7 v8
  go_enter Tryz.func19, Tryz.ntmps19
  go_upto_region 1 with fail
  generalize ((w.alloc (.cells #[.slice na l1 nc, .slice ca l2 cc, .slice ma l3 mc, .slice oa l4 oc, .int .i64 U.main] 27)).alloc (.cells #[.slice pa r1 pc, .slice qa r2 qc, .slice ra r3 rc, .slice sa r4 sc, .int .i64 V.main] 27)) = W at *
  by_cases g1 : ¬ l1 = r1
  · as_aux_lemma =>
    have d1 : ((l1 : Int) != (r1 : Int)) = true := by simp; omega
    have e := Lib.hid (hS.out.no1 g1)
    clear g1
    obtain ⟨a0, a1, a2, a3, a4, a5, a6, a7, a8, a9⟩ := hS.out.cells
    go_wp2
    go_ret
    exact ⟨congrArg (fun b => Ending.returned (Value.bool b)) e.out.symm, hS.out.bel⟩
  replace g1 : l1 = r1 := Decidable.not_not.1 g1
  subst g1
  have d1 : ((l1 : Int) != (l1 : Int)) = false := by simp
  by_cases g2 : ¬ l2 = r2
  · as_aux_lemma =>
    have d2 : ((l2 : Int) != (r2 : Int)) = true := by simp; omega
    have e := Lib.hid (hS.out.no2 g2)
    clear g2
    obtain ⟨a0, a1, a2, a3, a4, a5, a6, a7, a8, a9⟩ := hS.out.cells
    go_wp2
    go_ret
    exact ⟨congrArg (fun b => Ending.returned (Value.bool b)) e.out.symm, hS.out.bel⟩
  replace g2 : l2 = r2 := Decidable.not_not.1 g2
  subst g2
  have d2 : ((l2 : Int) != (l2 : Int)) = false := by simp
  by_cases g3 : ¬ l3 = r3
  · as_aux_lemma =>
    have d3 : ((l3 : Int) != (r3 : Int)) = true := by simp; omega
    have e := Lib.hid (hS.out.no3 g3)
    clear g3
    obtain ⟨a0, a1, a2, a3, a4, a5, a6, a7, a8, a9⟩ := hS.out.cells
    go_wp2
    go_ret
    exact ⟨congrArg (fun b => Ending.returned (Value.bool b)) e.out.symm, hS.out.bel⟩
  replace g3 : l3 = r3 := Decidable.not_not.1 g3
  subst g3
  have d3 : ((l3 : Int) != (l3 : Int)) = false := by simp
  by_cases g4 : ¬ l4 = r4
  · as_aux_lemma =>
    have d4 : ((l4 : Int) != (r4 : Int)) = true := by simp; omega
    have e := Lib.hid (hS.out.no4 g4)
    clear g4
    obtain ⟨a0, a1, a2, a3, a4, a5, a6, a7, a8, a9⟩ := hS.out.cells
    go_wp2
    go_ret
    exact ⟨congrArg (fun b => Ending.returned (Value.bool b)) e.out.symm, hS.out.bel⟩
  replace g4 : l4 = r4 := Decidable.not_not.1 g4
  subst g4
  have d4 : ((l4 : Int) != (l4 : Int)) = false := by simp
  by_cases g5 : ¬ U.main = V.main
  · as_aux_lemma =>
    have d5 : (U.main != V.main) = true := by simpa using g5
    have e : Hid (sameU U V = false) := Lib.hid (sameU_ne (fun q => g5 (by rw [q])))
    clear g5
    obtain ⟨a0, a1, a2, a3, a4, a5, a6, a7, a8, a9⟩ := hS.out.cells
    go_wp2
    go_ret
    exact ⟨congrArg (fun b => Ending.returned (Value.bool b)) e.out.symm, hS.out.bel⟩
  replace g5 : U.main = V.main := Decidable.not_not.1 g5
  have g5h := Lib.hid g5
  have d5 : (U.main != V.main) = false := by simpa using g5
  clear g5
  obtain ⟨a0, a1, a2, a3, a4, a5, a6, a7, a8, a9⟩ := hS.out.cells
  have E1 := Lib.hid (EqR.start U.names V.names)
  have E2 := Lib.hid (EqR.start U.classes V.classes)
  have E3 := Lib.hid (EqR.start U.methods V.methods)
  have E4 := Lib.hid (EqR.start U.objects V.objects)
  go_wp2
  clear a0 a1 a2 a3 a4 a5 a6 a7 a8 a9
  go_loopw [55] (fun i wr => ∃ (k : Nat), k ≤ l1 ∧ i = .int .i64 k ∧ Hid (EqR U.names V.names k) ∧ Hid (S5 w wr U V na nc ca cc ma mc oa oc pa pc qa qc ra rc sa sc l1 l2 l3 l4 l1 l2 l3 l4)) (fun i _ => l1 - (intOf i).toNat)
  case atStart => exact ⟨0, by omega, rfl, E1, hS⟩
  case round =>
    clear hS E1
    obtain ⟨k, hk, rfl, hE, hS⟩ := hrel
    by_cases hlt : k < l1
    · as_aux_lemma =>
      have hlt' : decide ((k : Int) < (l1 : Int)) = true := by simp; omega
      have p0 : (0 : Int) ≤ (k : Int) := by omega
      have p1 : (k : Int) < (l1 : Int) := by omega
      obtain ⟨a0, a1, a2, a3, a4, a5, a6, a7, a8, a9⟩ := hS.out.cells
      obtain ⟨x, hx⟩ : ∃ x, U.names[k]? = some x := ⟨U.names[k]'(by obtain ⟨h1, h2, h3, h4, h5, h6, h7, h8⟩ := hS.out.lens; omega), by simp⟩
      obtain ⟨y, hy⟩ : ∃ y, V.names[k]? = some y := ⟨V.names[k]'(by obtain ⟨h1, h2, h3, h4, h5, h6, h7, h8⟩ := hS.out.lens; omega), by simp⟩
      obtain ⟨c1, c2, c3, c4, c5, c6, c7, c8⟩ := hS.out.caps
      obtain ⟨v1, v2, v3, v4, v5, v6, v7, v8⟩ := hS.out.views
      obtain ⟨g, off, rfl, d0⟩ := NmV.at v1 hx
      obtain ⟨g2, off2, rfl, d1⟩ := NmV.at v5 hy
      clear v1 v2 v3 v4 v5 v6 v7 v8
      go_upto_region 6 with fail
      by_cases he : x = y
      · as_aux_lemma =>
        have he' : (x.toList == y.toList) = true := bl_eq he
        have hE' := Lib.hid (hE.out.step hx hy he)
        replace hS := Lib.hid hS.out.drew
        clear hx hy he
        refine wp_region_still_lit (by kernel_rfl) (by kernel_rfl) ?_
        iterate 11 still_step
        refine wpStill_nil ?_
        change Exit.then _ _ Exit.normal _ wr.drew
        clear a0 a1 a2 a3 a4 a5 a6 a7 a8 a9 d0 d1
        go_wp2
        go_roundw
        case rel => exact ⟨k + 1, by omega, by go_num, hE', hS⟩
        case measure => simp [intOf]; omega
      · as_aux_lemma =>
        have he' : (x.toList == y.toList) = false := bl_ne he
        have e : Hid (sameU U V = false) := Lib.hid (sameU_no1 hx hy he)
        replace hS := Lib.hid hS.out.drew
        clear hx hy he hE
        refine wp_region_still_lit (by kernel_rfl) (by kernel_rfl) ?_
        iterate 11 still_step
        refine wpStill_nil ?_
        change Exit.then _ _ Exit.normal _ wr.drew
        clear a0 a1 a2 a3 a4 a5 a6 a7 a8 a9 d0 d1
        go_wp2
        go_ret
        exact ⟨congrArg (fun b => Ending.returned (Value.bool b)) e.out.symm, hS.out.bel⟩
    · as_aux_lemma =>
      have hlt' : decide ((k : Int) < (l1 : Int)) = false := by simp; omega
      have eqF : Hid (U.names = V.names) := Lib.hid (hE.out.all (by obtain ⟨h1, h2, h3, h4, h5, h6, h7, h8⟩ := hS.out.lens; omega) (by obtain ⟨h1, h2, h3, h4, h5, h6, h7, h8⟩ := hS.out.lens; omega))
      obtain ⟨a0, a1, a2, a3, a4, a5, a6, a7, a8, a9⟩ := hS.out.cells
      clear hE
      go_wp2
      clear a0 a1 a2 a3 a4 a5 a6 a7 a8 a9
      clear hlt hlt' hk
      have Q1 := Lib.hid eqF.out
      clear eqF
      go_loopw [73] (fun i wr => ∃ (k : Nat), k ≤ l2 ∧ i = .int .i64 k ∧ Hid (EqR U.classes V.classes k) ∧ Hid (S5 w wr U V na nc ca cc ma mc oa oc pa pc qa qc ra rc sa sc l1 l2 l3 l4 l1 l2 l3 l4)) (fun i _ => l2 - (intOf i).toNat)
      case atStart => exact ⟨0, by omega, rfl, E2, hS⟩
      case round =>
        clear hS E2
        obtain ⟨k, hk, rfl, hE, hS⟩ := hrel
        by_cases hlt : k < l2
        · as_aux_lemma =>
          have hlt' : decide ((k : Int) < (l2 : Int)) = true := by simp; omega
          have p0 : (0 : Int) ≤ (k : Int) := by omega
          have p1 : (k : Int) < (l2 : Int) := by omega
          obtain ⟨a0, a1, a2, a3, a4, a5, a6, a7, a8, a9⟩ := hS.out.cells
          obtain ⟨x, hx⟩ : ∃ x, U.classes[k]? = some x := ⟨U.classes[k]'(by obtain ⟨h1, h2, h3, h4, h5, h6, h7, h8⟩ := hS.out.lens; omega), by simp⟩
          obtain ⟨y, hy⟩ : ∃ y, V.classes[k]? = some y := ⟨V.classes[k]'(by obtain ⟨h1, h2, h3, h4, h5, h6, h7, h8⟩ := hS.out.lens; omega), by simp⟩
          obtain ⟨c1, c2, c3, c4, c5, c6, c7, c8⟩ := hS.out.caps
          obtain ⟨v1, v2, v3, v4, v5, v6, v7, v8⟩ := hS.out.views
          obtain ⟨_, _, g, off, bv, rfl, d0, d1, d2, d3, pb⟩ := ClV.at v2 hx
          obtain ⟨_, _, g2, off2, bv2, rfl, f0, f1, f2, f3, pb2⟩ := ClV.at v6 hy
          obtain ⟨ba, bc, rfl, _, _⟩ := pb.form
          obtain ⟨qb, qbc, rfl, _, _⟩ := pb2.form
          clear v1 v2 v3 v4 v5 v6 v7 v8
          have b0 := World.block_lt_of_cell? wr _ a1
          have b1 := World.block_lt_of_cell? wr _ a6
          have b2 := World.block_lt_of_cell? wr _ d0
          have b3 := World.block_lt_of_cell? wr _ f0
          go_upto_region 12 with fail
          go_region
          · as_aux_lemma =>
            have i1 : (wr.alloc (.cells #[.string x.nm, .int .i64 x.super, .int .i64 x.fields, .slice ba x.binds.length bc] 60)).heap.size = wr.heap.size + 1 := by simp
            have hbb : Below wr.heap.size wr ((wr.alloc (.cells #[.string x.nm, .int .i64 x.super, .int .i64 x.fields, .slice ba x.binds.length bc] 60)).alloc (.cells #[.string y.nm, .int .i64 y.super, .int .i64 y.fields, .slice qb y.binds.length qbc] 60)).drew := (((Below.refl _ _).alloc (Nat.le_refl _) (.cells #[.string x.nm, .int .i64 x.super, .int .i64 x.fields, .slice ba x.binds.length bc] 60)).alloc (by rw [i1]; omega) (.cells #[.string y.nm, .int .i64 y.super, .int .i64 y.fields, .slice qb y.binds.length qbc] 60)).drew
            have x0 : ((wr.alloc (.cells #[.string x.nm, .int .i64 x.super, .int .i64 x.fields, .slice ba x.binds.length bc] 60)).alloc (.cells #[.string y.nm, .int .i64 y.super, .int .i64 y.fields, .slice qb y.binds.length qbc] 60)).drew.cell? ⟨wr.heap.size, 0, none⟩ = some (.string x.nm) := (World.cell?_alloc_old (wr.alloc (.cells #[.string x.nm, .int .i64 x.super, .int .i64 x.fields, .slice ba x.binds.length bc] 60)) (.cells #[.string y.nm, .int .i64 y.super, .int .i64 y.fields, .slice qb y.binds.length qbc] 60) _ (by simp)).trans (by simp)
            have x1 : ((wr.alloc (.cells #[.string x.nm, .int .i64 x.super, .int .i64 x.fields, .slice ba x.binds.length bc] 60)).alloc (.cells #[.string y.nm, .int .i64 y.super, .int .i64 y.fields, .slice qb y.binds.length qbc] 60)).drew.cell? ⟨wr.heap.size, 1, none⟩ = some (.int .i64 x.super) := (World.cell?_alloc_old (wr.alloc (.cells #[.string x.nm, .int .i64 x.super, .int .i64 x.fields, .slice ba x.binds.length bc] 60)) (.cells #[.string y.nm, .int .i64 y.super, .int .i64 y.fields, .slice qb y.binds.length qbc] 60) _ (by simp)).trans (by simp)
            have x2 : ((wr.alloc (.cells #[.string x.nm, .int .i64 x.super, .int .i64 x.fields, .slice ba x.binds.length bc] 60)).alloc (.cells #[.string y.nm, .int .i64 y.super, .int .i64 y.fields, .slice qb y.binds.length qbc] 60)).drew.cell? ⟨wr.heap.size, 2, none⟩ = some (.int .i64 x.fields) := (World.cell?_alloc_old (wr.alloc (.cells #[.string x.nm, .int .i64 x.super, .int .i64 x.fields, .slice ba x.binds.length bc] 60)) (.cells #[.string y.nm, .int .i64 y.super, .int .i64 y.fields, .slice qb y.binds.length qbc] 60) _ (by simp)).trans (by simp)
            have x3 : ((wr.alloc (.cells #[.string x.nm, .int .i64 x.super, .int .i64 x.fields, .slice ba x.binds.length bc] 60)).alloc (.cells #[.string y.nm, .int .i64 y.super, .int .i64 y.fields, .slice qb y.binds.length qbc] 60)).drew.cell? ⟨wr.heap.size, 3, none⟩ = some (.slice ba x.binds.length bc) := (World.cell?_alloc_old (wr.alloc (.cells #[.string x.nm, .int .i64 x.super, .int .i64 x.fields, .slice ba x.binds.length bc] 60)) (.cells #[.string y.nm, .int .i64 y.super, .int .i64 y.fields, .slice qb y.binds.length qbc] 60) _ (by simp)).trans (by simp)
            have y0 : ((wr.alloc (.cells #[.string x.nm, .int .i64 x.super, .int .i64 x.fields, .slice ba x.binds.length bc] 60)).alloc (.cells #[.string y.nm, .int .i64 y.super, .int .i64 y.fields, .slice qb y.binds.length qbc] 60)).drew.cell? ⟨wr.heap.size + 1, 0, none⟩ = some (.string y.nm) := by
              rw [World.cell?_drew, ← i1]
              exact World.cell?_alloc_new _ _ _ 0
            have y1 : ((wr.alloc (.cells #[.string x.nm, .int .i64 x.super, .int .i64 x.fields, .slice ba x.binds.length bc] 60)).alloc (.cells #[.string y.nm, .int .i64 y.super, .int .i64 y.fields, .slice qb y.binds.length qbc] 60)).drew.cell? ⟨wr.heap.size + 1, 1, none⟩ = some (.int .i64 y.super) := by
              rw [World.cell?_drew, ← i1]
              exact World.cell?_alloc_new _ _ _ 1
            have y2 : ((wr.alloc (.cells #[.string x.nm, .int .i64 x.super, .int .i64 x.fields, .slice ba x.binds.length bc] 60)).alloc (.cells #[.string y.nm, .int .i64 y.super, .int .i64 y.fields, .slice qb y.binds.length qbc] 60)).drew.cell? ⟨wr.heap.size + 1, 2, none⟩ = some (.int .i64 y.fields) := by
              rw [World.cell?_drew, ← i1]
              exact World.cell?_alloc_new _ _ _ 2
            have y3 : ((wr.alloc (.cells #[.string x.nm, .int .i64 x.super, .int .i64 x.fields, .slice ba x.binds.length bc] 60)).alloc (.cells #[.string y.nm, .int .i64 y.super, .int .i64 y.fields, .slice qb y.binds.length qbc] 60)).drew.cell? ⟨wr.heap.size + 1, 3, none⟩ = some (.slice qb y.binds.length qbc) := by
              rw [World.cell?_drew, ← i1]
              exact World.cell?_alloc_new _ _ _ 3
            replace hS := Lib.hid (hS.out.up hbb)
            replace pb := pb.up hbb
            replace pb2 := pb2.up hbb
            clear i1 hbb a0 a1 a2 a3 a4 a5 a6 a7 a8 a9 d0 d1 d2 d3 f0 f1 f2 f3 b0 b1 b2 b3 p0 p1 c1 c2 c3 c4 c5 c6 c7 c8
            generalize ((wr.alloc (.cells #[.string x.nm, .int .i64 x.super, .int .i64 x.fields, .slice ba x.binds.length bc] 60)).alloc (.cells #[.string y.nm, .int .i64 y.super, .int .i64 y.fields, .slice qb y.binds.length qbc] 60)).drew = W3 at *
            as_aux_lemma =>
            by_cases h0 : ¬ x.nm = y.nm
            · as_aux_lemma =>
              have e : Hid (sameU U V = false) := Lib.hid (sameU_no2 hx hy (fun q => h0 (by rw [q])))
              have t0 : (x.nm.toList == y.nm.toList) = false := bl_ne h0
              clear h0 hx hy hE
              go_wp2
              go_ret
              exact ⟨congrArg (fun b => Ending.returned (Value.bool b)) e.out.symm, hS.out.bel⟩
            replace h0 : x.nm = y.nm := Decidable.not_not.1 h0
            have t0 : (x.nm.toList == y.nm.toList) = true := bl_eq h0
            by_cases h1 : ¬ x.super = y.super
            · as_aux_lemma =>
              have e : Hid (sameU U V = false) := Lib.hid (sameU_no2 hx hy (fun q => h1 (by rw [q])))
              have t1 : (x.super != y.super) = true := by simpa using h1
              clear h1 hx hy hE
              go_wp2
              go_ret
              exact ⟨congrArg (fun b => Ending.returned (Value.bool b)) e.out.symm, hS.out.bel⟩
            replace h1 : x.super = y.super := Decidable.not_not.1 h1
            have t1 : (x.super != y.super) = false := by simpa using h1
            by_cases h2 : ¬ x.fields = y.fields
            · as_aux_lemma =>
              have e : Hid (sameU U V = false) := Lib.hid (sameU_no2 hx hy (fun q => h2 (by rw [q])))
              have t2 : (x.fields != y.fields) = true := by simpa using h2
              clear h2 hx hy hE
              go_wp2
              go_ret
              exact ⟨congrArg (fun b => Ending.returned (Value.bool b)) e.out.symm, hS.out.bel⟩
            replace h2 : x.fields = y.fields := Decidable.not_not.1 h2
            have t2 : (x.fields != y.fields) = false := by simpa using h2
            have PB := rbinds_c pb pb2
            by_cases h3 : ¬ x.binds = y.binds
            · as_aux_lemma =>
              have e : Hid (sameU U V = false) := Lib.hid (sameU_no2 hx hy (fun q => h3 (by rw [q])))
              rw [decide_eq_false h3] at PB
              replace PB := Lib.hid PB
              clear h0 h1 h2 h3 hx hy hE pb pb2
              go_wp2_with fail
              refine PB.out.mono ?_
              rintro e1 w4 ⟨rfl, hb4⟩
              replace hS := Lib.hid (hS.out.up hb4)
              clear hb4 PB
              go_wp2
              go_ret
              exact ⟨congrArg (fun b => Ending.returned (Value.bool b)) e.out.symm, hS.out.bel⟩
            replace h3 : x.binds = y.binds := Decidable.not_not.1 h3
            rw [decide_eq_true h3] at PB
            replace PB := Lib.hid PB
            have hE' := Lib.hid (hE.out.step hx hy (by cases x; cases y; simp only at h0 h1 h2 h3; rw [h0, h1, h2, h3]))
            clear h0 h1 h2 h3 hx hy hE pb pb2
            go_wp2_with fail
            refine PB.out.mono ?_
            rintro e1 w4 ⟨rfl, hb4⟩
            replace hS := Lib.hid (hS.out.up hb4)
            clear hb4 PB x0 x1 x2 x3 y0 y1 y2 y3
            go_wp2
            go_roundw
            case rel => exact ⟨k + 1, by omega, by go_num, hE', hS⟩
            case measure => simp [intOf]; omega
          · as_aux_lemma =>
            have i1 : (wr.alloc (.cells #[.string y.nm, .int .i64 y.super, .int .i64 y.fields, .slice qb y.binds.length qbc] 60)).heap.size = wr.heap.size + 1 := by simp
            have hbb : Below wr.heap.size wr ((wr.alloc (.cells #[.string y.nm, .int .i64 y.super, .int .i64 y.fields, .slice qb y.binds.length qbc] 60)).alloc (.cells #[.string x.nm, .int .i64 x.super, .int .i64 x.fields, .slice ba x.binds.length bc] 60)).drew := (((Below.refl _ _).alloc (Nat.le_refl _) (.cells #[.string y.nm, .int .i64 y.super, .int .i64 y.fields, .slice qb y.binds.length qbc] 60)).alloc (by rw [i1]; omega) (.cells #[.string x.nm, .int .i64 x.super, .int .i64 x.fields, .slice ba x.binds.length bc] 60)).drew
            have x0 : ((wr.alloc (.cells #[.string y.nm, .int .i64 y.super, .int .i64 y.fields, .slice qb y.binds.length qbc] 60)).alloc (.cells #[.string x.nm, .int .i64 x.super, .int .i64 x.fields, .slice ba x.binds.length bc] 60)).drew.cell? ⟨wr.heap.size + 1, 0, none⟩ = some (.string x.nm) := by
              rw [World.cell?_drew, ← i1]
              exact World.cell?_alloc_new _ _ _ 0
            have x1 : ((wr.alloc (.cells #[.string y.nm, .int .i64 y.super, .int .i64 y.fields, .slice qb y.binds.length qbc] 60)).alloc (.cells #[.string x.nm, .int .i64 x.super, .int .i64 x.fields, .slice ba x.binds.length bc] 60)).drew.cell? ⟨wr.heap.size + 1, 1, none⟩ = some (.int .i64 x.super) := by
              rw [World.cell?_drew, ← i1]
              exact World.cell?_alloc_new _ _ _ 1
            have x2 : ((wr.alloc (.cells #[.string y.nm, .int .i64 y.super, .int .i64 y.fields, .slice qb y.binds.length qbc] 60)).alloc (.cells #[.string x.nm, .int .i64 x.super, .int .i64 x.fields, .slice ba x.binds.length bc] 60)).drew.cell? ⟨wr.heap.size + 1, 2, none⟩ = some (.int .i64 x.fields) := by
              rw [World.cell?_drew, ← i1]
              exact World.cell?_alloc_new _ _ _ 2
            have x3 : ((wr.alloc (.cells #[.string y.nm, .int .i64 y.super, .int .i64 y.fields, .slice qb y.binds.length qbc] 60)).alloc (.cells #[.string x.nm, .int .i64 x.super, .int .i64 x.fields, .slice ba x.binds.length bc] 60)).drew.cell? ⟨wr.heap.size + 1, 3, none⟩ = some (.slice ba x.binds.length bc) := by
              rw [World.cell?_drew, ← i1]
              exact World.cell?_alloc_new _ _ _ 3
            have y0 : ((wr.alloc (.cells #[.string y.nm, .int .i64 y.super, .int .i64 y.fields, .slice qb y.binds.length qbc] 60)).alloc (.cells #[.string x.nm, .int .i64 x.super, .int .i64 x.fields, .slice ba x.binds.length bc] 60)).drew.cell? ⟨wr.heap.size, 0, none⟩ = some (.string y.nm) := (World.cell?_alloc_old (wr.alloc (.cells #[.string y.nm, .int .i64 y.super, .int .i64 y.fields, .slice qb y.binds.length qbc] 60)) (.cells #[.string x.nm, .int .i64 x.super, .int .i64 x.fields, .slice ba x.binds.length bc] 60) _ (by simp)).trans (by simp)
            have y1 : ((wr.alloc (.cells #[.string y.nm, .int .i64 y.super, .int .i64 y.fields, .slice qb y.binds.length qbc] 60)).alloc (.cells #[.string x.nm, .int .i64 x.super, .int .i64 x.fields, .slice ba x.binds.length bc] 60)).drew.cell? ⟨wr.heap.size, 1, none⟩ = some (.int .i64 y.super) := (World.cell?_alloc_old (wr.alloc (.cells #[.string y.nm, .int .i64 y.super, .int .i64 y.fields, .slice qb y.binds.length qbc] 60)) (.cells #[.string x.nm, .int .i64 x.super, .int .i64 x.fields, .slice ba x.binds.length bc] 60) _ (by simp)).trans (by simp)
            have y2 : ((wr.alloc (.cells #[.string y.nm, .int .i64 y.super, .int .i64 y.fields, .slice qb y.binds.length qbc] 60)).alloc (.cells #[.string x.nm, .int .i64 x.super, .int .i64 x.fields, .slice ba x.binds.length bc] 60)).drew.cell? ⟨wr.heap.size, 2, none⟩ = some (.int .i64 y.fields) := (World.cell?_alloc_old (wr.alloc (.cells #[.string y.nm, .int .i64 y.super, .int .i64 y.fields, .slice qb y.binds.length qbc] 60)) (.cells #[.string x.nm, .int .i64 x.super, .int .i64 x.fields, .slice ba x.binds.length bc] 60) _ (by simp)).trans (by simp)
            have y3 : ((wr.alloc (.cells #[.string y.nm, .int .i64 y.super, .int .i64 y.fields, .slice qb y.binds.length qbc] 60)).alloc (.cells #[.string x.nm, .int .i64 x.super, .int .i64 x.fields, .slice ba x.binds.length bc] 60)).drew.cell? ⟨wr.heap.size, 3, none⟩ = some (.slice qb y.binds.length qbc) := (World.cell?_alloc_old (wr.alloc (.cells #[.string y.nm, .int .i64 y.super, .int .i64 y.fields, .slice qb y.binds.length qbc] 60)) (.cells #[.string x.nm, .int .i64 x.super, .int .i64 x.fields, .slice ba x.binds.length bc] 60) _ (by simp)).trans (by simp)
            replace hS := Lib.hid (hS.out.up hbb)
            replace pb := pb.up hbb
            replace pb2 := pb2.up hbb
            clear i1 hbb a0 a1 a2 a3 a4 a5 a6 a7 a8 a9 d0 d1 d2 d3 f0 f1 f2 f3 b0 b1 b2 b3 p0 p1 c1 c2 c3 c4 c5 c6 c7 c8
            generalize ((wr.alloc (.cells #[.string y.nm, .int .i64 y.super, .int .i64 y.fields, .slice qb y.binds.length qbc] 60)).alloc (.cells #[.string x.nm, .int .i64 x.super, .int .i64 x.fields, .slice ba x.binds.length bc] 60)).drew = W3 at *
            as_aux_lemma =>
            by_cases h0 : ¬ x.nm = y.nm
            · as_aux_lemma =>
              have e : Hid (sameU U V = false) := Lib.hid (sameU_no2 hx hy (fun q => h0 (by rw [q])))
              have t0 : (x.nm.toList == y.nm.toList) = false := bl_ne h0
              clear h0 hx hy hE
              go_wp2
              go_ret
              exact ⟨congrArg (fun b => Ending.returned (Value.bool b)) e.out.symm, hS.out.bel⟩
            replace h0 : x.nm = y.nm := Decidable.not_not.1 h0
            have t0 : (x.nm.toList == y.nm.toList) = true := bl_eq h0
            by_cases h1 : ¬ x.super = y.super
            · as_aux_lemma =>
              have e : Hid (sameU U V = false) := Lib.hid (sameU_no2 hx hy (fun q => h1 (by rw [q])))
              have t1 : (x.super != y.super) = true := by simpa using h1
              clear h1 hx hy hE
              go_wp2
              go_ret
              exact ⟨congrArg (fun b => Ending.returned (Value.bool b)) e.out.symm, hS.out.bel⟩
            replace h1 : x.super = y.super := Decidable.not_not.1 h1
            have t1 : (x.super != y.super) = false := by simpa using h1
            by_cases h2 : ¬ x.fields = y.fields
            · as_aux_lemma =>
              have e : Hid (sameU U V = false) := Lib.hid (sameU_no2 hx hy (fun q => h2 (by rw [q])))
              have t2 : (x.fields != y.fields) = true := by simpa using h2
              clear h2 hx hy hE
              go_wp2
              go_ret
              exact ⟨congrArg (fun b => Ending.returned (Value.bool b)) e.out.symm, hS.out.bel⟩
            replace h2 : x.fields = y.fields := Decidable.not_not.1 h2
            have t2 : (x.fields != y.fields) = false := by simpa using h2
            have PB := rbinds_c pb pb2
            by_cases h3 : ¬ x.binds = y.binds
            · as_aux_lemma =>
              have e : Hid (sameU U V = false) := Lib.hid (sameU_no2 hx hy (fun q => h3 (by rw [q])))
              rw [decide_eq_false h3] at PB
              replace PB := Lib.hid PB
              clear h0 h1 h2 h3 hx hy hE pb pb2
              go_wp2_with fail
              refine PB.out.mono ?_
              rintro e1 w4 ⟨rfl, hb4⟩
              replace hS := Lib.hid (hS.out.up hb4)
              clear hb4 PB
              go_wp2
              go_ret
              exact ⟨congrArg (fun b => Ending.returned (Value.bool b)) e.out.symm, hS.out.bel⟩
            replace h3 : x.binds = y.binds := Decidable.not_not.1 h3
            rw [decide_eq_true h3] at PB
            replace PB := Lib.hid PB
            have hE' := Lib.hid (hE.out.step hx hy (by cases x; cases y; simp only at h0 h1 h2 h3; rw [h0, h1, h2, h3]))
            clear h0 h1 h2 h3 hx hy hE pb pb2
            go_wp2_with fail
            refine PB.out.mono ?_
            rintro e1 w4 ⟨rfl, hb4⟩
            replace hS := Lib.hid (hS.out.up hb4)
            clear hb4 PB x0 x1 x2 x3 y0 y1 y2 y3
            go_wp2
            go_roundw
            case rel => exact ⟨k + 1, by omega, by go_num, hE', hS⟩
            case measure => simp [intOf]; omega
        · as_aux_lemma =>
          have hlt' : decide ((k : Int) < (l2 : Int)) = false := by simp; omega
          have eqF : Hid (U.classes = V.classes) := Lib.hid (hE.out.all (by obtain ⟨h1, h2, h3, h4, h5, h6, h7, h8⟩ := hS.out.lens; omega) (by obtain ⟨h1, h2, h3, h4, h5, h6, h7, h8⟩ := hS.out.lens; omega))
          obtain ⟨a0, a1, a2, a3, a4, a5, a6, a7, a8, a9⟩ := hS.out.cells
          clear hE
          go_wp2
          clear a0 a1 a2 a3 a4 a5 a6 a7 a8 a9
          clear hlt hlt' hk
          have Q2 := Lib.hid eqF.out
          clear eqF
          go_loopw [117] (fun i wr => ∃ (k : Nat), k ≤ l3 ∧ i = .int .i64 k ∧ Hid (EqR U.methods V.methods k) ∧ Hid (S5 w wr U V na nc ca cc ma mc oa oc pa pc qa qc ra rc sa sc l1 l2 l3 l4 l1 l2 l3 l4)) (fun i _ => l3 - (intOf i).toNat)
          case atStart => exact ⟨0, by omega, rfl, E3, hS⟩
          case round =>
            clear hS E3
            obtain ⟨k, hk, rfl, hE, hS⟩ := hrel
            by_cases hlt : k < l3
            · as_aux_lemma =>
              have hlt' : decide ((k : Int) < (l3 : Int)) = true := by simp; omega
              have p0 : (0 : Int) ≤ (k : Int) := by omega
              have p1 : (k : Int) < (l3 : Int) := by omega
              obtain ⟨a0, a1, a2, a3, a4, a5, a6, a7, a8, a9⟩ := hS.out.cells
              obtain ⟨x, hx⟩ : ∃ x, U.methods[k]? = some x := ⟨U.methods[k]'(by obtain ⟨h1, h2, h3, h4, h5, h6, h7, h8⟩ := hS.out.lens; omega), by simp⟩
              obtain ⟨y, hy⟩ : ∃ y, V.methods[k]? = some y := ⟨V.methods[k]'(by obtain ⟨h1, h2, h3, h4, h5, h6, h7, h8⟩ := hS.out.lens; omega), by simp⟩
              obtain ⟨c1, c2, c3, c4, c5, c6, c7, c8⟩ := hS.out.caps
              obtain ⟨v1, v2, v3, v4, v5, v6, v7, v8⟩ := hS.out.views
              obtain ⟨g, off, xa, xc, xb, xd, rfl, d0, d1, d2, d3, pm⟩ := MtV.at v3 hx
              obtain ⟨g2, off2, ya, yc, yb, yd, rfl, f0, f1, f2, f3, pm2⟩ := MtV.at v7 hy
              clear v1 v2 v3 v4 v5 v6 v7 v8
              go_upto_region 19 with fail
              have PB := rsamem_c (pm.up (Below.refl wr.heap.size wr).drew) (pm2.up (Below.refl wr.heap.size wr).drew)
              rw [methEq_iff] at PB
              have hSd := hS.out.drew
              refine wp_region_still_tail 10 (by kernel_rfl) (by kernel_rfl) ?_
              simp only [List.take_succ_cons, List.take_zero, List.drop_succ_cons, List.drop_zero]
              iterate 10 still_step
              refine wpStill_nil ?_
              change wpList _ _ _ _ _ wr.drew
              replace hS := Lib.hid hSd
              clear hSd pm pm2
              generalize wr.drew = W3 at *
              by_cases he : x = y
              · as_aux_lemma =>
                rw [decide_eq_true he] at PB
                replace PB := Lib.hid PB
                have hE' := Lib.hid (hE.out.step hx hy he)
                clear hx hy he hE a0 a1 a2 a3 a4 a5 a6 a7 a8 a9 d0 d1 d2 d3 f0 f1 f2 f3
                go_wp2_with fail
                refine PB.out.mono ?_
                rintro e1 w4 ⟨rfl, hb4⟩
                replace hS := Lib.hid (hS.out.up hb4)
                clear hb4 PB
                go_wp2
                go_roundw
                case rel => exact ⟨k + 1, by omega, by go_num, hE', hS⟩
                case measure => simp [intOf]; omega
              · as_aux_lemma =>
                have e : Hid (sameU U V = false) := Lib.hid (sameU_no3 hx hy he)
                rw [decide_eq_false he] at PB
                replace PB := Lib.hid PB
                clear hx hy he hE a0 a1 a2 a3 a4 a5 a6 a7 a8 a9 d0 d1 d2 d3 f0 f1 f2 f3
                go_wp2_with fail
                refine PB.out.mono ?_
                rintro e1 w4 ⟨rfl, hb4⟩
                replace hS := Lib.hid (hS.out.up hb4)
                clear hb4 PB
                go_wp2
                go_ret
                exact ⟨congrArg (fun b => Ending.returned (Value.bool b)) e.out.symm, hS.out.bel⟩
            · as_aux_lemma =>
              have hlt' : decide ((k : Int) < (l3 : Int)) = false := by simp; omega
              have eqF : Hid (U.methods = V.methods) := Lib.hid (hE.out.all (by obtain ⟨h1, h2, h3, h4, h5, h6, h7, h8⟩ := hS.out.lens; omega) (by obtain ⟨h1, h2, h3, h4, h5, h6, h7, h8⟩ := hS.out.lens; omega))
              obtain ⟨a0, a1, a2, a3, a4, a5, a6, a7, a8, a9⟩ := hS.out.cells
              clear hE
              go_wp2
              clear a0 a1 a2 a3 a4 a5 a6 a7 a8 a9
              clear hlt hlt' hk
              have Q3 := Lib.hid eqF.out
              clear eqF
              go_loopw [136] (fun i wr => ∃ (k : Nat), k ≤ l4 ∧ i = .int .i64 k ∧ Hid (EqR U.objects V.objects k) ∧ Hid (S5 w wr U V na nc ca cc ma mc oa oc pa pc qa qc ra rc sa sc l1 l2 l3 l4 l1 l2 l3 l4)) (fun i _ => l4 - (intOf i).toNat)
              case atStart => exact ⟨0, by omega, rfl, E4, hS⟩
              case round =>
                clear hS E4
                obtain ⟨k, hk, rfl, hE, hS⟩ := hrel
                by_cases hlt : k < l4
                · as_aux_lemma =>
                  have hlt' : decide ((k : Int) < (l4 : Int)) = true := by simp; omega
                  have p0 : (0 : Int) ≤ (k : Int) := by omega
                  have p1 : (k : Int) < (l4 : Int) := by omega
                  obtain ⟨a0, a1, a2, a3, a4, a5, a6, a7, a8, a9⟩ := hS.out.cells
                  obtain ⟨x, hx⟩ : ∃ x, U.objects[k]? = some x := ⟨U.objects[k]'(by obtain ⟨h1, h2, h3, h4, h5, h6, h7, h8⟩ := hS.out.lens; omega), by simp⟩
                  obtain ⟨y, hy⟩ : ∃ y, V.objects[k]? = some y := ⟨V.objects[k]'(by obtain ⟨h1, h2, h3, h4, h5, h6, h7, h8⟩ := hS.out.lens; omega), by simp⟩
                  obtain ⟨c1, c2, c3, c4, c5, c6, c7, c8⟩ := hS.out.caps
                  obtain ⟨v1, v2, v3, v4, v5, v6, v7, v8⟩ := hS.out.views
                  obtain ⟨_, g, off, fv, rfl, d0, d1, pf⟩ := ObV.at v4 hx
                  obtain ⟨_, g2, off2, fv2, rfl, f0, f1, pf2⟩ := ObV.at v8 hy
                  clear v1 v2 v3 v4 v5 v6 v7 v8
                  go_upto_region 25 with fail
                  clear a0 a1 a2 a4 a5 a6 a7 a9
                  by_cases h0 : ¬ x.cls = y.cls
                  · as_aux_lemma =>
                    have e : Hid (sameU U V = false) := Lib.hid (sameU_no4 hx hy (fun q => h0 (by rw [q])))
                    have t0 : (x.cls != y.cls) = true := by simpa using h0
                    replace hS := Lib.hid hS.out.drew
                    clear hx hy h0 hE pf pf2
                    refine wp_region_held_drew (S := (fun wr' => wr'.cell? ⟨w.heap.size, 3, none⟩ = some (.slice (some ⟨g, off, none⟩) l4 oc) ∧ wr'.cell? ⟨w.heap.size + 1, 3, none⟩ = some (.slice (some ⟨g2, off2, none⟩) l4 sc) ∧ wr'.cell? ⟨g, off + k * 2, none⟩ = some (.int .i64 x.cls) ∧ wr'.cell? ⟨g, off + k * 2 + 1, none⟩ = some fv ∧ wr'.cell? ⟨g2, off2 + k * 2, none⟩ = some (.int .i64 y.cls) ∧ wr'.cell? ⟨g2, off2 + k * 2 + 1, none⟩ = some fv2)) (by kernel_rfl) ?_ (fun hHeld => ?_)
                    · (try dsimp only); exact ⟨a3, a8, d0, d1, f0, f1⟩
                    try simp only [Act.put, List.setIfInBounds_toArray, List.set_cons_zero, List.set_cons_succ]
                    refine wpAnyH_take (i := 0) (oi := { dst := some 139, op := Op.fieldAddr 27 (Operand.tmp 2) 3, type := 0, pos := "ref.go:245", after := #[], guard := none }) (v := ?_) rfl (by kernel_rfl) (by kernel_rfl) (by kernel_rfl) (fun _ _ _ h => h) (Or.inl ⟨by rfl, ?_⟩) (by assumption) ?_
                    rotate_left 1
                    · intro w hSw; (try dsimp only at hSw); go_simp <;> with_reducible rfl
                    try simp only [Act.put, List.setIfInBounds_toArray, List.set_cons_zero, List.set_cons_succ]
                    refine wpAnyH_take (i := 1) (oi := { dst := some 140, op := Op.load 25 (Operand.tmp 139), type := 25, pos := "ref.go:245", after := #[{ on := 0, ground := Ground.data }], guard := none }) (v := ?_) rfl (by kernel_rfl) (by kernel_rfl) (by kernel_rfl) (fun _ _ _ h => h) (Or.inl ⟨by rfl, ?_⟩) (by assumption) ?_
                    rotate_left 1
                    · intro w hSw; (try dsimp only at hSw); go_simp <;> with_reducible rfl
                    try simp only [Act.put, List.setIfInBounds_toArray, List.set_cons_zero, List.set_cons_succ]
                    refine wpAnyH_take (i := 2) (oi := { dst := some 141, op := Op.move (Operand.tmp 10), type := 3, pos := "ref.go:245", after := #[], guard := none }) (v := ?_) rfl (by kernel_rfl) (by kernel_rfl) (by kernel_rfl) (fun _ _ _ h => h) (Or.inl ⟨by rfl, ?_⟩) (by assumption) ?_
                    rotate_left 1
                    · intro w hSw; (try dsimp only at hSw); go_simp <;> with_reducible rfl
                    try simp only [Act.put, List.setIfInBounds_toArray, List.set_cons_zero, List.set_cons_succ]
                    refine wpAnyH_take (i := 3) (oi := { dst := some 142, op := Op.indexAddr 25 (Operand.tmp 140) (Operand.tmp 141), type := 0, pos := "ref.go:245", after := #[{ on := 1, ground := Ground.data }, { on := 2, ground := Ground.data }], guard := none }) (v := ?_) rfl (by kernel_rfl) (by kernel_rfl) (by kernel_rfl) (fun _ _ _ h => h) (Or.inl ⟨by rfl, ?_⟩) (by assumption) ?_
                    rotate_left 1
                    · intro w hSw; (try dsimp only at hSw); go_simp <;> with_reducible rfl
                    try simp only [Act.put, List.setIfInBounds_toArray, List.set_cons_zero, List.set_cons_succ]
                    refine wpAnyH_take (i := 4) (oi := { dst := some 143, op := Op.fieldAddr 55 (Operand.tmp 142) 0, type := 0, pos := "ref.go:245", after := #[{ on := 3, ground := Ground.data }], guard := none }) (v := ?_) rfl (by kernel_rfl) (by kernel_rfl) (by kernel_rfl) (fun _ _ _ h => h) (Or.inl ⟨by rfl, ?_⟩) (by assumption) ?_
                    rotate_left 1
                    · intro w hSw; (try dsimp only at hSw); go_simp <;> with_reducible rfl
                    try simp only [Act.put, List.setIfInBounds_toArray, List.set_cons_zero, List.set_cons_succ]
                    refine wpAnyH_take (i := 5) (oi := { dst := some 144, op := Op.load 3 (Operand.tmp 143), type := 3, pos := "ref.go:245", after := #[{ on := 4, ground := Ground.data }], guard := none }) (v := ?_) rfl (by kernel_rfl) (by kernel_rfl) (by kernel_rfl) (fun _ _ _ h => h) (Or.inl ⟨by rfl, ?_⟩) (by assumption) ?_
                    rotate_left 1
                    · intro w hSw; (try dsimp only at hSw); go_simp <;> with_reducible rfl
                    try simp only [Act.put, List.setIfInBounds_toArray, List.set_cons_zero, List.set_cons_succ]
                    refine wpAnyH_take (i := 6) (oi := { dst := some 145, op := Op.fieldAddr 27 (Operand.tmp 3) 3, type := 0, pos := "ref.go:245", after := #[], guard := none }) (v := ?_) rfl (by kernel_rfl) (by kernel_rfl) (by kernel_rfl) (fun _ _ _ h => h) (Or.inl ⟨by rfl, ?_⟩) (by assumption) ?_
                    rotate_left 1
                    · intro w hSw; (try dsimp only at hSw); go_simp <;> with_reducible rfl
                    try simp only [Act.put, List.setIfInBounds_toArray, List.set_cons_zero, List.set_cons_succ]
                    refine wpAnyH_take (i := 7) (oi := { dst := some 146, op := Op.load 25 (Operand.tmp 145), type := 25, pos := "ref.go:245", after := #[{ on := 6, ground := Ground.data }], guard := none }) (v := ?_) rfl (by kernel_rfl) (by kernel_rfl) (by kernel_rfl) (fun _ _ _ h => h) (Or.inl ⟨by rfl, ?_⟩) (by assumption) ?_
                    rotate_left 1
                    · intro w hSw; (try dsimp only at hSw); go_simp <;> with_reducible rfl
                    try simp only [Act.put, List.setIfInBounds_toArray, List.set_cons_zero, List.set_cons_succ]
                    refine wpAnyH_take (i := 8) (oi := { dst := some 147, op := Op.move (Operand.tmp 10), type := 3, pos := "ref.go:245", after := #[], guard := none }) (v := ?_) rfl (by kernel_rfl) (by kernel_rfl) (by kernel_rfl) (fun _ _ _ h => h) (Or.inl ⟨by rfl, ?_⟩) (by assumption) ?_
                    rotate_left 1
                    · intro w hSw; (try dsimp only at hSw); go_simp <;> with_reducible rfl
                    try simp only [Act.put, List.setIfInBounds_toArray, List.set_cons_zero, List.set_cons_succ]
                    refine wpAnyH_take (i := 9) (oi := { dst := some 148, op := Op.indexAddr 25 (Operand.tmp 146) (Operand.tmp 147), type := 0, pos := "ref.go:245", after := #[{ on := 7, ground := Ground.data }, { on := 8, ground := Ground.data }], guard := none }) (v := ?_) rfl (by kernel_rfl) (by kernel_rfl) (by kernel_rfl) (fun _ _ _ h => h) (Or.inl ⟨by rfl, ?_⟩) (by assumption) ?_
                    rotate_left 1
                    · intro w hSw; (try dsimp only at hSw); go_simp <;> with_reducible rfl
                    try simp only [Act.put, List.setIfInBounds_toArray, List.set_cons_zero, List.set_cons_succ]
                    refine wpAnyH_take (i := 10) (oi := { dst := some 149, op := Op.fieldAddr 55 (Operand.tmp 148) 0, type := 0, pos := "ref.go:245", after := #[{ on := 9, ground := Ground.data }], guard := none }) (v := ?_) rfl (by kernel_rfl) (by kernel_rfl) (by kernel_rfl) (fun _ _ _ h => h) (Or.inl ⟨by rfl, ?_⟩) (by assumption) ?_
                    rotate_left 1
                    · intro w hSw; (try dsimp only at hSw); go_simp <;> with_reducible rfl
                    try simp only [Act.put, List.setIfInBounds_toArray, List.set_cons_zero, List.set_cons_succ]
                    refine wpAnyH_take (i := 11) (oi := { dst := some 150, op := Op.load 3 (Operand.tmp 149), type := 3, pos := "ref.go:245", after := #[{ on := 10, ground := Ground.data }], guard := none }) (v := ?_) rfl (by kernel_rfl) (by kernel_rfl) (by kernel_rfl) (fun _ _ _ h => h) (Or.inl ⟨by rfl, ?_⟩) (by assumption) ?_
                    rotate_left 1
                    · intro w hSw; (try dsimp only at hSw); go_simp <;> with_reducible rfl
                    try simp only [Act.put, List.setIfInBounds_toArray, List.set_cons_zero, List.set_cons_succ]
                    refine wpAnyH_take (i := 12) (oi := { dst := some 151, op := Op.binOp BinOp.neq 3 (Operand.tmp 144) (Operand.tmp 150) 3, type := 4, pos := "ref.go:245", after := #[{ on := 5, ground := Ground.data }, { on := 11, ground := Ground.data }], guard := none }) (v := ?_) rfl (by kernel_rfl) (by kernel_rfl) (by kernel_rfl) (fun _ _ _ h => h) (Or.inl ⟨by rfl, ?_⟩) (by assumption) ?_
                    rotate_left 1
                    · intro w hSw; (try dsimp only at hSw); go_simp <;> with_reducible rfl
                    try simp only [Act.put, List.setIfInBounds_toArray, List.set_cons_zero, List.set_cons_succ]
                    refine wpAnyH_take (i := 13) (oi := { dst := some 152, op := Op.move (Operand.tmp 151), type := 4, pos := "ref.go:245", after := #[{ on := 12, ground := Ground.data }], guard := none }) (v := ?_) rfl (by kernel_rfl) (by kernel_rfl) (by kernel_rfl) (fun _ _ _ h => h) (Or.inl ⟨by rfl, ?_⟩) (by assumption) ?_
                    rotate_left 1
                    · intro w hSw; (try dsimp only at hSw); go_simp <;> with_reducible rfl
                    try simp only [Act.put, List.setIfInBounds_toArray, List.set_cons_zero, List.set_cons_succ]
                    refine wpAnyH_take (i := 14) (oi := { dst := some 153, op := Op.fieldAddr 27 (Operand.tmp 2) 3, type := 0, pos := "ref.go:245", after := #[{ on := 13, ground := Ground.guard }], guard := some (13, false) }) (v := undef) rfl (by kernel_rfl) (by kernel_rfl) (by kernel_rfl) (fun _ _ _ h => h) (Or.inr ⟨by rfl, rfl⟩) (by assumption) ?_
                    try simp only [Act.put, List.setIfInBounds_toArray, List.set_cons_zero, List.set_cons_succ]
                    refine wpAnyH_take (i := 15) (oi := { dst := some 154, op := Op.load 25 (Operand.tmp 153), type := 25, pos := "ref.go:245", after := #[{ on := 14, ground := Ground.data }, { on := 13, ground := Ground.guard }], guard := some (13, false) }) (v := undef) rfl (by kernel_rfl) (by kernel_rfl) (by kernel_rfl) (fun _ _ _ h => h) (Or.inr ⟨by rfl, rfl⟩) (by assumption) ?_
                    try simp only [Act.put, List.setIfInBounds_toArray, List.set_cons_zero, List.set_cons_succ]
                    refine wpAnyH_take (i := 16) (oi := { dst := some 155, op := Op.move (Operand.tmp 10), type := 3, pos := "ref.go:245", after := #[{ on := 13, ground := Ground.guard }], guard := some (13, false) }) (v := undef) rfl (by kernel_rfl) (by kernel_rfl) (by kernel_rfl) (fun _ _ _ h => h) (Or.inr ⟨by rfl, rfl⟩) (by assumption) ?_
                    try simp only [Act.put, List.setIfInBounds_toArray, List.set_cons_zero, List.set_cons_succ]
                    refine wpAnyH_take (i := 17) (oi := { dst := some 156, op := Op.indexAddr 25 (Operand.tmp 154) (Operand.tmp 155), type := 0, pos := "ref.go:245", after := #[{ on := 15, ground := Ground.data }, { on := 16, ground := Ground.data }, { on := 13, ground := Ground.guard }], guard := some (13, false) }) (v := undef) rfl (by kernel_rfl) (by kernel_rfl) (by kernel_rfl) (fun _ _ _ h => h) (Or.inr ⟨by rfl, rfl⟩) (by assumption) ?_
                    try simp only [Act.put, List.setIfInBounds_toArray, List.set_cons_zero, List.set_cons_succ]
                    refine wpAnyH_take (i := 18) (oi := { dst := some 157, op := Op.fieldAddr 55 (Operand.tmp 156) 1, type := 0, pos := "ref.go:245", after := #[{ on := 17, ground := Ground.data }, { on := 13, ground := Ground.guard }], guard := some (13, false) }) (v := undef) rfl (by kernel_rfl) (by kernel_rfl) (by kernel_rfl) (fun _ _ _ h => h) (Or.inr ⟨by rfl, rfl⟩) (by assumption) ?_
                    try simp only [Act.put, List.setIfInBounds_toArray, List.set_cons_zero, List.set_cons_succ]
                    refine wpAnyH_take (i := 19) (oi := { dst := some 158, op := Op.load 53 (Operand.tmp 157), type := 53, pos := "ref.go:245", after := #[{ on := 18, ground := Ground.data }, { on := 13, ground := Ground.guard }], guard := some (13, false) }) (v := undef) rfl (by kernel_rfl) (by kernel_rfl) (by kernel_rfl) (fun _ _ _ h => h) (Or.inr ⟨by rfl, rfl⟩) (by assumption) ?_
                    try simp only [Act.put, List.setIfInBounds_toArray, List.set_cons_zero, List.set_cons_succ]
                    refine wpAnyH_take (i := 20) (oi := { dst := some 159, op := Op.fieldAddr 27 (Operand.tmp 3) 3, type := 0, pos := "ref.go:245", after := #[{ on := 13, ground := Ground.guard }], guard := some (13, false) }) (v := undef) rfl (by kernel_rfl) (by kernel_rfl) (by kernel_rfl) (fun _ _ _ h => h) (Or.inr ⟨by rfl, rfl⟩) (by assumption) ?_
                    try simp only [Act.put, List.setIfInBounds_toArray, List.set_cons_zero, List.set_cons_succ]
                    refine wpAnyH_take (i := 21) (oi := { dst := some 160, op := Op.load 25 (Operand.tmp 159), type := 25, pos := "ref.go:245", after := #[{ on := 20, ground := Ground.data }, { on := 13, ground := Ground.guard }], guard := some (13, false) }) (v := undef) rfl (by kernel_rfl) (by kernel_rfl) (by kernel_rfl) (fun _ _ _ h => h) (Or.inr ⟨by rfl, rfl⟩) (by assumption) ?_
                    try simp only [Act.put, List.setIfInBounds_toArray, List.set_cons_zero, List.set_cons_succ]
                    refine wpAnyH_take (i := 22) (oi := { dst := some 161, op := Op.move (Operand.tmp 10), type := 3, pos := "ref.go:245", after := #[{ on := 13, ground := Ground.guard }], guard := some (13, false) }) (v := undef) rfl (by kernel_rfl) (by kernel_rfl) (by kernel_rfl) (fun _ _ _ h => h) (Or.inr ⟨by rfl, rfl⟩) (by assumption) ?_
                    try simp only [Act.put, List.setIfInBounds_toArray, List.set_cons_zero, List.set_cons_succ]
                    refine wpAnyH_take (i := 23) (oi := { dst := some 162, op := Op.indexAddr 25 (Operand.tmp 160) (Operand.tmp 161), type := 0, pos := "ref.go:245", after := #[{ on := 21, ground := Ground.data }, { on := 22, ground := Ground.data }, { on := 13, ground := Ground.guard }], guard := some (13, false) }) (v := undef) rfl (by kernel_rfl) (by kernel_rfl) (by kernel_rfl) (fun _ _ _ h => h) (Or.inr ⟨by rfl, rfl⟩) (by assumption) ?_
                    try simp only [Act.put, List.setIfInBounds_toArray, List.set_cons_zero, List.set_cons_succ]
                    refine wpAnyH_take (i := 24) (oi := { dst := some 163, op := Op.fieldAddr 55 (Operand.tmp 162) 1, type := 0, pos := "ref.go:245", after := #[{ on := 23, ground := Ground.data }, { on := 13, ground := Ground.guard }], guard := some (13, false) }) (v := undef) rfl (by kernel_rfl) (by kernel_rfl) (by kernel_rfl) (fun _ _ _ h => h) (Or.inr ⟨by rfl, rfl⟩) (by assumption) ?_
                    try simp only [Act.put, List.setIfInBounds_toArray, List.set_cons_zero, List.set_cons_succ]
                    refine wpAnyH_take (i := 25) (oi := { dst := some 164, op := Op.load 53 (Operand.tmp 163), type := 53, pos := "ref.go:245", after := #[{ on := 24, ground := Ground.data }, { on := 13, ground := Ground.guard }], guard := some (13, false) }) (v := undef) rfl (by kernel_rfl) (by kernel_rfl) (by kernel_rfl) (fun _ _ _ h => h) (Or.inr ⟨by rfl, rfl⟩) (by assumption) ?_
                    try simp only [Act.put, List.setIfInBounds_toArray, List.set_cons_zero, List.set_cons_succ]
                    refine wpAnyH_take (i := 26) (oi := { dst := some 165, op := Op.call { callee := Callee.value (Operand.func 43), args := #[Operand.tmp 158, Operand.tmp 164], argTypes := #[53, 53] }, type := 4, pos := "ref.go:245", after := #[{ on := 19, ground := Ground.data }, { on := 25, ground := Ground.data }, { on := 13, ground := Ground.chain }, { on := 13, ground := Ground.guard }], guard := some (13, false) }) (v := undef) rfl (by kernel_rfl) (by kernel_rfl) (by kernel_rfl) (fun _ _ _ h => h) (Or.inr ⟨by rfl, rfl⟩) (by assumption) ?_
                    try simp only [Act.put, List.setIfInBounds_toArray, List.set_cons_zero, List.set_cons_succ]
                    refine wpAnyH_take (i := 27) (oi := { dst := some 166, op := Op.unOp UnOp.not 4 (Operand.tmp 165), type := 4, pos := "ref.go:245", after := #[{ on := 26, ground := Ground.data }, { on := 13, ground := Ground.guard }], guard := some (13, false) }) (v := undef) rfl (by kernel_rfl) (by kernel_rfl) (by kernel_rfl) (fun _ _ _ h => h) (Or.inr ⟨by rfl, rfl⟩) (by assumption) ?_
                    try simp only [Act.put, List.setIfInBounds_toArray, List.set_cons_zero, List.set_cons_succ]
                    refine wpAnyH_take (i := 28) (oi := { dst := some 167, op := Op.pick (Operand.tmp 152) (Operand.const (Value.bool true)) (Operand.tmp 166), type := 4, pos := "ref.go:245", after := #[{ on := 13, ground := Ground.data }, { on := 27, ground := Ground.data }], guard := none }) (v := ?_) rfl (by kernel_rfl) (by kernel_rfl) (by kernel_rfl) (fun _ _ _ h => h) (Or.inl ⟨by rfl, ?_⟩) (by assumption) ?_
                    rotate_left 1
                    · intro w hSw; (try dsimp only at hSw); go_simp <;> with_reducible rfl
                    try simp only [Act.put, List.setIfInBounds_toArray, List.set_cons_zero, List.set_cons_succ]
                    refine wpAnyH_done (by kernel_rfl) ?_ _
                    go_wp2
                    go_ret
                    exact ⟨congrArg (fun b => Ending.returned (Value.bool b)) e.out.symm, hS.out.bel⟩
                  replace h0 : x.cls = y.cls := Decidable.not_not.1 h0
                  have t0 : (x.cls != y.cls) = false := by simpa using h0
                  have PB := rvals_c (pf.up (Below.refl wr.heap.size wr).drew) (pf2.up (Below.refl wr.heap.size wr).drew)
                  replace hS := Lib.hid hS.out.drew
                  clear pf pf2
                  by_cases he : x.flds = y.flds
                  · as_aux_lemma =>
                    rw [decide_eq_true he] at PB
                    replace PB := Lib.hid PB
                    have hE' := Lib.hid (hE.out.step hx hy (by cases x; cases y; simp only at h0 he; rw [h0, he]))
                    clear hx hy he hE h0
                    refine wp_region_held_drew (S := (fun wr' => wr'.cell? ⟨w.heap.size, 3, none⟩ = some (.slice (some ⟨g, off, none⟩) l4 oc) ∧ wr'.cell? ⟨w.heap.size + 1, 3, none⟩ = some (.slice (some ⟨g2, off2, none⟩) l4 sc) ∧ wr'.cell? ⟨g, off + k * 2, none⟩ = some (.int .i64 x.cls) ∧ wr'.cell? ⟨g, off + k * 2 + 1, none⟩ = some fv ∧ wr'.cell? ⟨g2, off2 + k * 2, none⟩ = some (.int .i64 y.cls) ∧ wr'.cell? ⟨g2, off2 + k * 2 + 1, none⟩ = some fv2)) (by kernel_rfl) ?_ (fun hHeld => ?_)
                    · (try dsimp only); exact ⟨a3, a8, d0, d1, f0, f1⟩
                    try simp only [Act.put, List.setIfInBounds_toArray, List.set_cons_zero, List.set_cons_succ]
                    refine wpAnyH_take (i := 0) (oi := { dst := some 139, op := Op.fieldAddr 27 (Operand.tmp 2) 3, type := 0, pos := "ref.go:245", after := #[], guard := none }) (v := ?_) rfl (by kernel_rfl) (by kernel_rfl) (by kernel_rfl) (fun _ _ _ h => h) (Or.inl ⟨by rfl, ?_⟩) (by assumption) ?_
                    rotate_left 1
                    · intro w hSw; (try dsimp only at hSw); go_simp <;> with_reducible rfl
                    try simp only [Act.put, List.setIfInBounds_toArray, List.set_cons_zero, List.set_cons_succ]
                    refine wpAnyH_take (i := 1) (oi := { dst := some 140, op := Op.load 25 (Operand.tmp 139), type := 25, pos := "ref.go:245", after := #[{ on := 0, ground := Ground.data }], guard := none }) (v := ?_) rfl (by kernel_rfl) (by kernel_rfl) (by kernel_rfl) (fun _ _ _ h => h) (Or.inl ⟨by rfl, ?_⟩) (by assumption) ?_
                    rotate_left 1
                    · intro w hSw; (try dsimp only at hSw); go_simp <;> with_reducible rfl
                    try simp only [Act.put, List.setIfInBounds_toArray, List.set_cons_zero, List.set_cons_succ]
                    refine wpAnyH_take (i := 2) (oi := { dst := some 141, op := Op.move (Operand.tmp 10), type := 3, pos := "ref.go:245", after := #[], guard := none }) (v := ?_) rfl (by kernel_rfl) (by kernel_rfl) (by kernel_rfl) (fun _ _ _ h => h) (Or.inl ⟨by rfl, ?_⟩) (by assumption) ?_
                    rotate_left 1
                    · intro w hSw; (try dsimp only at hSw); go_simp <;> with_reducible rfl
                    try simp only [Act.put, List.setIfInBounds_toArray, List.set_cons_zero, List.set_cons_succ]
                    refine wpAnyH_take (i := 3) (oi := { dst := some 142, op := Op.indexAddr 25 (Operand.tmp 140) (Operand.tmp 141), type := 0, pos := "ref.go:245", after := #[{ on := 1, ground := Ground.data }, { on := 2, ground := Ground.data }], guard := none }) (v := ?_) rfl (by kernel_rfl) (by kernel_rfl) (by kernel_rfl) (fun _ _ _ h => h) (Or.inl ⟨by rfl, ?_⟩) (by assumption) ?_
                    rotate_left 1
                    · intro w hSw; (try dsimp only at hSw); go_simp <;> with_reducible rfl
                    try simp only [Act.put, List.setIfInBounds_toArray, List.set_cons_zero, List.set_cons_succ]
                    refine wpAnyH_take (i := 4) (oi := { dst := some 143, op := Op.fieldAddr 55 (Operand.tmp 142) 0, type := 0, pos := "ref.go:245", after := #[{ on := 3, ground := Ground.data }], guard := none }) (v := ?_) rfl (by kernel_rfl) (by kernel_rfl) (by kernel_rfl) (fun _ _ _ h => h) (Or.inl ⟨by rfl, ?_⟩) (by assumption) ?_
                    rotate_left 1
                    · intro w hSw; (try dsimp only at hSw); go_simp <;> with_reducible rfl
                    try simp only [Act.put, List.setIfInBounds_toArray, List.set_cons_zero, List.set_cons_succ]
                    refine wpAnyH_take (i := 5) (oi := { dst := some 144, op := Op.load 3 (Operand.tmp 143), type := 3, pos := "ref.go:245", after := #[{ on := 4, ground := Ground.data }], guard := none }) (v := ?_) rfl (by kernel_rfl) (by kernel_rfl) (by kernel_rfl) (fun _ _ _ h => h) (Or.inl ⟨by rfl, ?_⟩) (by assumption) ?_
                    rotate_left 1
                    · intro w hSw; (try dsimp only at hSw); go_simp <;> with_reducible rfl
                    try simp only [Act.put, List.setIfInBounds_toArray, List.set_cons_zero, List.set_cons_succ]
                    refine wpAnyH_take (i := 6) (oi := { dst := some 145, op := Op.fieldAddr 27 (Operand.tmp 3) 3, type := 0, pos := "ref.go:245", after := #[], guard := none }) (v := ?_) rfl (by kernel_rfl) (by kernel_rfl) (by kernel_rfl) (fun _ _ _ h => h) (Or.inl ⟨by rfl, ?_⟩) (by assumption) ?_
                    rotate_left 1
                    · intro w hSw; (try dsimp only at hSw); go_simp <;> with_reducible rfl
                    try simp only [Act.put, List.setIfInBounds_toArray, List.set_cons_zero, List.set_cons_succ]
                    refine wpAnyH_take (i := 7) (oi := { dst := some 146, op := Op.load 25 (Operand.tmp 145), type := 25, pos := "ref.go:245", after := #[{ on := 6, ground := Ground.data }], guard := none }) (v := ?_) rfl (by kernel_rfl) (by kernel_rfl) (by kernel_rfl) (fun _ _ _ h => h) (Or.inl ⟨by rfl, ?_⟩) (by assumption) ?_
                    rotate_left 1
                    · intro w hSw; (try dsimp only at hSw); go_simp <;> with_reducible rfl
                    try simp only [Act.put, List.setIfInBounds_toArray, List.set_cons_zero, List.set_cons_succ]
                    refine wpAnyH_take (i := 8) (oi := { dst := some 147, op := Op.move (Operand.tmp 10), type := 3, pos := "ref.go:245", after := #[], guard := none }) (v := ?_) rfl (by kernel_rfl) (by kernel_rfl) (by kernel_rfl) (fun _ _ _ h => h) (Or.inl ⟨by rfl, ?_⟩) (by assumption) ?_
                    rotate_left 1
                    · intro w hSw; (try dsimp only at hSw); go_simp <;> with_reducible rfl
                    try simp only [Act.put, List.setIfInBounds_toArray, List.set_cons_zero, List.set_cons_succ]
                    refine wpAnyH_take (i := 9) (oi := { dst := some 148, op := Op.indexAddr 25 (Operand.tmp 146) (Operand.tmp 147), type := 0, pos := "ref.go:245", after := #[{ on := 7, ground := Ground.data }, { on := 8, ground := Ground.data }], guard := none }) (v := ?_) rfl (by kernel_rfl) (by kernel_rfl) (by kernel_rfl) (fun _ _ _ h => h) (Or.inl ⟨by rfl, ?_⟩) (by assumption) ?_
                    rotate_left 1
                    · intro w hSw; (try dsimp only at hSw); go_simp <;> with_reducible rfl
                    try simp only [Act.put, List.setIfInBounds_toArray, List.set_cons_zero, List.set_cons_succ]
                    refine wpAnyH_take (i := 10) (oi := { dst := some 149, op := Op.fieldAddr 55 (Operand.tmp 148) 0, type := 0, pos := "ref.go:245", after := #[{ on := 9, ground := Ground.data }], guard := none }) (v := ?_) rfl (by kernel_rfl) (by kernel_rfl) (by kernel_rfl) (fun _ _ _ h => h) (Or.inl ⟨by rfl, ?_⟩) (by assumption) ?_
                    rotate_left 1
                    · intro w hSw; (try dsimp only at hSw); go_simp <;> with_reducible rfl
                    try simp only [Act.put, List.setIfInBounds_toArray, List.set_cons_zero, List.set_cons_succ]
                    refine wpAnyH_take (i := 11) (oi := { dst := some 150, op := Op.load 3 (Operand.tmp 149), type := 3, pos := "ref.go:245", after := #[{ on := 10, ground := Ground.data }], guard := none }) (v := ?_) rfl (by kernel_rfl) (by kernel_rfl) (by kernel_rfl) (fun _ _ _ h => h) (Or.inl ⟨by rfl, ?_⟩) (by assumption) ?_
                    rotate_left 1
                    · intro w hSw; (try dsimp only at hSw); go_simp <;> with_reducible rfl
                    try simp only [Act.put, List.setIfInBounds_toArray, List.set_cons_zero, List.set_cons_succ]
                    refine wpAnyH_take (i := 12) (oi := { dst := some 151, op := Op.binOp BinOp.neq 3 (Operand.tmp 144) (Operand.tmp 150) 3, type := 4, pos := "ref.go:245", after := #[{ on := 5, ground := Ground.data }, { on := 11, ground := Ground.data }], guard := none }) (v := ?_) rfl (by kernel_rfl) (by kernel_rfl) (by kernel_rfl) (fun _ _ _ h => h) (Or.inl ⟨by rfl, ?_⟩) (by assumption) ?_
                    rotate_left 1
                    · intro w hSw; (try dsimp only at hSw); go_simp <;> with_reducible rfl
                    try simp only [Act.put, List.setIfInBounds_toArray, List.set_cons_zero, List.set_cons_succ]
                    refine wpAnyH_take (i := 13) (oi := { dst := some 152, op := Op.move (Operand.tmp 151), type := 4, pos := "ref.go:245", after := #[{ on := 12, ground := Ground.data }], guard := none }) (v := ?_) rfl (by kernel_rfl) (by kernel_rfl) (by kernel_rfl) (fun _ _ _ h => h) (Or.inl ⟨by rfl, ?_⟩) (by assumption) ?_
                    rotate_left 1
                    · intro w hSw; (try dsimp only at hSw); go_simp <;> with_reducible rfl
                    try simp only [Act.put, List.setIfInBounds_toArray, List.set_cons_zero, List.set_cons_succ]
                    refine wpAnyH_take (i := 14) (oi := { dst := some 153, op := Op.fieldAddr 27 (Operand.tmp 2) 3, type := 0, pos := "ref.go:245", after := #[{ on := 13, ground := Ground.guard }], guard := some (13, false) }) (v := ?_) rfl (by kernel_rfl) (by kernel_rfl) (by kernel_rfl) (fun _ _ _ h => h) (Or.inl ⟨by rfl, ?_⟩) (by assumption) ?_
                    rotate_left 1
                    · intro w hSw; (try dsimp only at hSw); go_simp <;> with_reducible rfl
                    try simp only [Act.put, List.setIfInBounds_toArray, List.set_cons_zero, List.set_cons_succ]
                    refine wpAnyH_take (i := 15) (oi := { dst := some 154, op := Op.load 25 (Operand.tmp 153), type := 25, pos := "ref.go:245", after := #[{ on := 14, ground := Ground.data }, { on := 13, ground := Ground.guard }], guard := some (13, false) }) (v := ?_) rfl (by kernel_rfl) (by kernel_rfl) (by kernel_rfl) (fun _ _ _ h => h) (Or.inl ⟨by rfl, ?_⟩) (by assumption) ?_
                    rotate_left 1
                    · intro w hSw; (try dsimp only at hSw); go_simp <;> with_reducible rfl
                    try simp only [Act.put, List.setIfInBounds_toArray, List.set_cons_zero, List.set_cons_succ]
                    refine wpAnyH_take (i := 16) (oi := { dst := some 155, op := Op.move (Operand.tmp 10), type := 3, pos := "ref.go:245", after := #[{ on := 13, ground := Ground.guard }], guard := some (13, false) }) (v := ?_) rfl (by kernel_rfl) (by kernel_rfl) (by kernel_rfl) (fun _ _ _ h => h) (Or.inl ⟨by rfl, ?_⟩) (by assumption) ?_
                    rotate_left 1
                    · intro w hSw; (try dsimp only at hSw); go_simp <;> with_reducible rfl
                    try simp only [Act.put, List.setIfInBounds_toArray, List.set_cons_zero, List.set_cons_succ]
                    refine wpAnyH_take (i := 17) (oi := { dst := some 156, op := Op.indexAddr 25 (Operand.tmp 154) (Operand.tmp 155), type := 0, pos := "ref.go:245", after := #[{ on := 15, ground := Ground.data }, { on := 16, ground := Ground.data }, { on := 13, ground := Ground.guard }], guard := some (13, false) }) (v := ?_) rfl (by kernel_rfl) (by kernel_rfl) (by kernel_rfl) (fun _ _ _ h => h) (Or.inl ⟨by rfl, ?_⟩) (by assumption) ?_
                    rotate_left 1
                    · intro w hSw; (try dsimp only at hSw); go_simp <;> with_reducible rfl
                    try simp only [Act.put, List.setIfInBounds_toArray, List.set_cons_zero, List.set_cons_succ]
                    refine wpAnyH_take (i := 18) (oi := { dst := some 157, op := Op.fieldAddr 55 (Operand.tmp 156) 1, type := 0, pos := "ref.go:245", after := #[{ on := 17, ground := Ground.data }, { on := 13, ground := Ground.guard }], guard := some (13, false) }) (v := ?_) rfl (by kernel_rfl) (by kernel_rfl) (by kernel_rfl) (fun _ _ _ h => h) (Or.inl ⟨by rfl, ?_⟩) (by assumption) ?_
                    rotate_left 1
                    · intro w hSw; (try dsimp only at hSw); go_simp <;> with_reducible rfl
                    try simp only [Act.put, List.setIfInBounds_toArray, List.set_cons_zero, List.set_cons_succ]
                    refine wpAnyH_take (i := 19) (oi := { dst := some 158, op := Op.load 53 (Operand.tmp 157), type := 53, pos := "ref.go:245", after := #[{ on := 18, ground := Ground.data }, { on := 13, ground := Ground.guard }], guard := some (13, false) }) (v := ?_) rfl (by kernel_rfl) (by kernel_rfl) (by kernel_rfl) (fun _ _ _ h => h) (Or.inl ⟨by rfl, ?_⟩) (by assumption) ?_
                    rotate_left 1
                    · intro w hSw; (try dsimp only at hSw); go_simp <;> with_reducible rfl
                    try simp only [Act.put, List.setIfInBounds_toArray, List.set_cons_zero, List.set_cons_succ]
                    refine wpAnyH_take (i := 20) (oi := { dst := some 159, op := Op.fieldAddr 27 (Operand.tmp 3) 3, type := 0, pos := "ref.go:245", after := #[{ on := 13, ground := Ground.guard }], guard := some (13, false) }) (v := ?_) rfl (by kernel_rfl) (by kernel_rfl) (by kernel_rfl) (fun _ _ _ h => h) (Or.inl ⟨by rfl, ?_⟩) (by assumption) ?_
                    rotate_left 1
                    · intro w hSw; (try dsimp only at hSw); go_simp <;> with_reducible rfl
                    try simp only [Act.put, List.setIfInBounds_toArray, List.set_cons_zero, List.set_cons_succ]
                    refine wpAnyH_take (i := 21) (oi := { dst := some 160, op := Op.load 25 (Operand.tmp 159), type := 25, pos := "ref.go:245", after := #[{ on := 20, ground := Ground.data }, { on := 13, ground := Ground.guard }], guard := some (13, false) }) (v := ?_) rfl (by kernel_rfl) (by kernel_rfl) (by kernel_rfl) (fun _ _ _ h => h) (Or.inl ⟨by rfl, ?_⟩) (by assumption) ?_
                    rotate_left 1
                    · intro w hSw; (try dsimp only at hSw); go_simp <;> with_reducible rfl
                    try simp only [Act.put, List.setIfInBounds_toArray, List.set_cons_zero, List.set_cons_succ]
                    refine wpAnyH_take (i := 22) (oi := { dst := some 161, op := Op.move (Operand.tmp 10), type := 3, pos := "ref.go:245", after := #[{ on := 13, ground := Ground.guard }], guard := some (13, false) }) (v := ?_) rfl (by kernel_rfl) (by kernel_rfl) (by kernel_rfl) (fun _ _ _ h => h) (Or.inl ⟨by rfl, ?_⟩) (by assumption) ?_
                    rotate_left 1
                    · intro w hSw; (try dsimp only at hSw); go_simp <;> with_reducible rfl
                    try simp only [Act.put, List.setIfInBounds_toArray, List.set_cons_zero, List.set_cons_succ]
                    refine wpAnyH_take (i := 23) (oi := { dst := some 162, op := Op.indexAddr 25 (Operand.tmp 160) (Operand.tmp 161), type := 0, pos := "ref.go:245", after := #[{ on := 21, ground := Ground.data }, { on := 22, ground := Ground.data }, { on := 13, ground := Ground.guard }], guard := some (13, false) }) (v := ?_) rfl (by kernel_rfl) (by kernel_rfl) (by kernel_rfl) (fun _ _ _ h => h) (Or.inl ⟨by rfl, ?_⟩) (by assumption) ?_
                    rotate_left 1
                    · intro w hSw; (try dsimp only at hSw); go_simp <;> with_reducible rfl
                    try simp only [Act.put, List.setIfInBounds_toArray, List.set_cons_zero, List.set_cons_succ]
                    refine wpAnyH_take (i := 24) (oi := { dst := some 163, op := Op.fieldAddr 55 (Operand.tmp 162) 1, type := 0, pos := "ref.go:245", after := #[{ on := 23, ground := Ground.data }, { on := 13, ground := Ground.guard }], guard := some (13, false) }) (v := ?_) rfl (by kernel_rfl) (by kernel_rfl) (by kernel_rfl) (fun _ _ _ h => h) (Or.inl ⟨by rfl, ?_⟩) (by assumption) ?_
                    rotate_left 1
                    · intro w hSw; (try dsimp only at hSw); go_simp <;> with_reducible rfl
                    try simp only [Act.put, List.setIfInBounds_toArray, List.set_cons_zero, List.set_cons_succ]
                    refine wpAnyH_take (i := 25) (oi := { dst := some 164, op := Op.load 53 (Operand.tmp 163), type := 53, pos := "ref.go:245", after := #[{ on := 24, ground := Ground.data }, { on := 13, ground := Ground.guard }], guard := some (13, false) }) (v := ?_) rfl (by kernel_rfl) (by kernel_rfl) (by kernel_rfl) (fun _ _ _ h => h) (Or.inl ⟨by rfl, ?_⟩) (by assumption) ?_
                    rotate_left 1
                    · intro w hSw; (try dsimp only at hSw); go_simp <;> with_reducible rfl
                    try simp only [Act.put, List.setIfInBounds_toArray, List.set_cons_zero, List.set_cons_succ]
                    refine wpAnyH_ready (rs := [26]) (by kernel_rfl) (by simp) ?_
                    refine AllReadyH.cons (o := { dst := some 165, op := Op.call { callee := Callee.value (Operand.func 43), args := #[Operand.tmp 158, Operand.tmp 164], argTypes := #[53, 53] }, type := 4, pos := "ref.go:245", after := #[{ on := 19, ground := Ground.data }, { on := 25, ground := Ground.data }, { on := 13, ground := Ground.chain }, { on := 13, ground := Ground.guard }], guard := some (13, false) }) rfl (fun K9 hK => ?_) ?_
                    · go_simp
                      with_reducible refine (PB.out).mono ?_
                      rintro e1 w4 ⟨rfl, hb4⟩
                      have hq9 := Lib.hid (And.intro (cell_up hb4 a3) (And.intro (cell_up hb4 a8) (And.intro (cell_up hb4 d0) (And.intro (cell_up hb4 d1) (And.intro (cell_up hb4 f0) (cell_up hb4 f1))))))
                      replace hS := Lib.hid (hS.out.up hb4)
                      clear hb4 PB a3 a8 d0 d1 f0 f1
                      go_wp2_with fail
                      refine hK.out _ _ ?_ ?_
                      · (try dsimp only); exact hq9.out
                      clear hK K9 hHeld; intro hHeld
                      try simp only [Act.put, List.setIfInBounds_toArray, List.set_cons_zero, List.set_cons_succ]
                      refine wpAnyH_take (i := 27) (oi := { dst := some 166, op := Op.unOp UnOp.not 4 (Operand.tmp 165), type := 4, pos := "ref.go:245", after := #[{ on := 26, ground := Ground.data }, { on := 13, ground := Ground.guard }], guard := some (13, false) }) (v := ?_) rfl (by kernel_rfl) (by kernel_rfl) (by kernel_rfl) (fun _ _ _ h => h) (Or.inl ⟨by rfl, ?_⟩) (by assumption) ?_
                      rotate_left 1
                      · intro w hSw; (try dsimp only at hSw); go_simp <;> with_reducible rfl
                      try simp only [Act.put, List.setIfInBounds_toArray, List.set_cons_zero, List.set_cons_succ]
                      refine wpAnyH_take (i := 28) (oi := { dst := some 167, op := Op.pick (Operand.tmp 152) (Operand.const (Value.bool true)) (Operand.tmp 166), type := 4, pos := "ref.go:245", after := #[{ on := 13, ground := Ground.data }, { on := 27, ground := Ground.data }], guard := none }) (v := ?_) rfl (by kernel_rfl) (by kernel_rfl) (by kernel_rfl) (fun _ _ _ h => h) (Or.inl ⟨by rfl, ?_⟩) (by assumption) ?_
                      rotate_left 1
                      · intro w hSw; (try dsimp only at hSw); go_simp <;> with_reducible rfl
                      try simp only [Act.put, List.setIfInBounds_toArray, List.set_cons_zero, List.set_cons_succ]
                      refine wpAnyH_done (by kernel_rfl) ?_ _
                      go_wp2
                      go_roundw
                      case rel => exact ⟨k + 1, by omega, by go_num, hE', hS⟩
                      case measure => simp [intOf]; omega
                    exact AllReadyH.nil
                  · as_aux_lemma =>
                    have e : Hid (sameU U V = false) := Lib.hid (sameU_no4 hx hy (fun q => he (by rw [q])))
                    rw [decide_eq_false he] at PB
                    replace PB := Lib.hid PB
                    clear hx hy he hE h0
                    refine wp_region_held_drew (S := (fun wr' => wr'.cell? ⟨w.heap.size, 3, none⟩ = some (.slice (some ⟨g, off, none⟩) l4 oc) ∧ wr'.cell? ⟨w.heap.size + 1, 3, none⟩ = some (.slice (some ⟨g2, off2, none⟩) l4 sc) ∧ wr'.cell? ⟨g, off + k * 2, none⟩ = some (.int .i64 x.cls) ∧ wr'.cell? ⟨g, off + k * 2 + 1, none⟩ = some fv ∧ wr'.cell? ⟨g2, off2 + k * 2, none⟩ = some (.int .i64 y.cls) ∧ wr'.cell? ⟨g2, off2 + k * 2 + 1, none⟩ = some fv2)) (by kernel_rfl) ?_ (fun hHeld => ?_)
                    · (try dsimp only); exact ⟨a3, a8, d0, d1, f0, f1⟩
                    try simp only [Act.put, List.setIfInBounds_toArray, List.set_cons_zero, List.set_cons_succ]
                    refine wpAnyH_take (i := 0) (oi := { dst := some 139, op := Op.fieldAddr 27 (Operand.tmp 2) 3, type := 0, pos := "ref.go:245", after := #[], guard := none }) (v := ?_) rfl (by kernel_rfl) (by kernel_rfl) (by kernel_rfl) (fun _ _ _ h => h) (Or.inl ⟨by rfl, ?_⟩) (by assumption) ?_
                    rotate_left 1
                    · intro w hSw; (try dsimp only at hSw); go_simp <;> with_reducible rfl
                    try simp only [Act.put, List.setIfInBounds_toArray, List.set_cons_zero, List.set_cons_succ]
                    refine wpAnyH_take (i := 1) (oi := { dst := some 140, op := Op.load 25 (Operand.tmp 139), type := 25, pos := "ref.go:245", after := #[{ on := 0, ground := Ground.data }], guard := none }) (v := ?_) rfl (by kernel_rfl) (by kernel_rfl) (by kernel_rfl) (fun _ _ _ h => h) (Or.inl ⟨by rfl, ?_⟩) (by assumption) ?_
                    rotate_left 1
                    · intro w hSw; (try dsimp only at hSw); go_simp <;> with_reducible rfl
                    try simp only [Act.put, List.setIfInBounds_toArray, List.set_cons_zero, List.set_cons_succ]
                    refine wpAnyH_take (i := 2) (oi := { dst := some 141, op := Op.move (Operand.tmp 10), type := 3, pos := "ref.go:245", after := #[], guard := none }) (v := ?_) rfl (by kernel_rfl) (by kernel_rfl) (by kernel_rfl) (fun _ _ _ h => h) (Or.inl ⟨by rfl, ?_⟩) (by assumption) ?_
                    rotate_left 1
                    · intro w hSw; (try dsimp only at hSw); go_simp <;> with_reducible rfl
                    try simp only [Act.put, List.setIfInBounds_toArray, List.set_cons_zero, List.set_cons_succ]
                    refine wpAnyH_take (i := 3) (oi := { dst := some 142, op := Op.indexAddr 25 (Operand.tmp 140) (Operand.tmp 141), type := 0, pos := "ref.go:245", after := #[{ on := 1, ground := Ground.data }, { on := 2, ground := Ground.data }], guard := none }) (v := ?_) rfl (by kernel_rfl) (by kernel_rfl) (by kernel_rfl) (fun _ _ _ h => h) (Or.inl ⟨by rfl, ?_⟩) (by assumption) ?_
                    rotate_left 1
                    · intro w hSw; (try dsimp only at hSw); go_simp <;> with_reducible rfl
                    try simp only [Act.put, List.setIfInBounds_toArray, List.set_cons_zero, List.set_cons_succ]
                    refine wpAnyH_take (i := 4) (oi := { dst := some 143, op := Op.fieldAddr 55 (Operand.tmp 142) 0, type := 0, pos := "ref.go:245", after := #[{ on := 3, ground := Ground.data }], guard := none }) (v := ?_) rfl (by kernel_rfl) (by kernel_rfl) (by kernel_rfl) (fun _ _ _ h => h) (Or.inl ⟨by rfl, ?_⟩) (by assumption) ?_
                    rotate_left 1
                    · intro w hSw; (try dsimp only at hSw); go_simp <;> with_reducible rfl
                    try simp only [Act.put, List.setIfInBounds_toArray, List.set_cons_zero, List.set_cons_succ]
                    refine wpAnyH_take (i := 5) (oi := { dst := some 144, op := Op.load 3 (Operand.tmp 143), type := 3, pos := "ref.go:245", after := #[{ on := 4, ground := Ground.data }], guard := none }) (v := ?_) rfl (by kernel_rfl) (by kernel_rfl) (by kernel_rfl) (fun _ _ _ h => h) (Or.inl ⟨by rfl, ?_⟩) (by assumption) ?_
                    rotate_left 1
                    · intro w hSw; (try dsimp only at hSw); go_simp <;> with_reducible rfl
                    try simp only [Act.put, List.setIfInBounds_toArray, List.set_cons_zero, List.set_cons_succ]
                    refine wpAnyH_take (i := 6) (oi := { dst := some 145, op := Op.fieldAddr 27 (Operand.tmp 3) 3, type := 0, pos := "ref.go:245", after := #[], guard := none }) (v := ?_) rfl (by kernel_rfl) (by kernel_rfl) (by kernel_rfl) (fun _ _ _ h => h) (Or.inl ⟨by rfl, ?_⟩) (by assumption) ?_
                    rotate_left 1
                    · intro w hSw; (try dsimp only at hSw); go_simp <;> with_reducible rfl
                    try simp only [Act.put, List.setIfInBounds_toArray, List.set_cons_zero, List.set_cons_succ]
                    refine wpAnyH_take (i := 7) (oi := { dst := some 146, op := Op.load 25 (Operand.tmp 145), type := 25, pos := "ref.go:245", after := #[{ on := 6, ground := Ground.data }], guard := none }) (v := ?_) rfl (by kernel_rfl) (by kernel_rfl) (by kernel_rfl) (fun _ _ _ h => h) (Or.inl ⟨by rfl, ?_⟩) (by assumption) ?_
                    rotate_left 1
                    · intro w hSw; (try dsimp only at hSw); go_simp <;> with_reducible rfl
                    try simp only [Act.put, List.setIfInBounds_toArray, List.set_cons_zero, List.set_cons_succ]
                    refine wpAnyH_take (i := 8) (oi := { dst := some 147, op := Op.move (Operand.tmp 10), type := 3, pos := "ref.go:245", after := #[], guard := none }) (v := ?_) rfl (by kernel_rfl) (by kernel_rfl) (by kernel_rfl) (fun _ _ _ h => h) (Or.inl ⟨by rfl, ?_⟩) (by assumption) ?_
                    rotate_left 1
                    · intro w hSw; (try dsimp only at hSw); go_simp <;> with_reducible rfl
                    try simp only [Act.put, List.setIfInBounds_toArray, List.set_cons_zero, List.set_cons_succ]
                    refine wpAnyH_take (i := 9) (oi := { dst := some 148, op := Op.indexAddr 25 (Operand.tmp 146) (Operand.tmp 147), type := 0, pos := "ref.go:245", after := #[{ on := 7, ground := Ground.data }, { on := 8, ground := Ground.data }], guard := none }) (v := ?_) rfl (by kernel_rfl) (by kernel_rfl) (by kernel_rfl) (fun _ _ _ h => h) (Or.inl ⟨by rfl, ?_⟩) (by assumption) ?_
                    rotate_left 1
                    · intro w hSw; (try dsimp only at hSw); go_simp <;> with_reducible rfl
                    try simp only [Act.put, List.setIfInBounds_toArray, List.set_cons_zero, List.set_cons_succ]
                    refine wpAnyH_take (i := 10) (oi := { dst := some 149, op := Op.fieldAddr 55 (Operand.tmp 148) 0, type := 0, pos := "ref.go:245", after := #[{ on := 9, ground := Ground.data }], guard := none }) (v := ?_) rfl (by kernel_rfl) (by kernel_rfl) (by kernel_rfl) (fun _ _ _ h => h) (Or.inl ⟨by rfl, ?_⟩) (by assumption) ?_
                    rotate_left 1
                    · intro w hSw; (try dsimp only at hSw); go_simp <;> with_reducible rfl
                    try simp only [Act.put, List.setIfInBounds_toArray, List.set_cons_zero, List.set_cons_succ]
                    refine wpAnyH_take (i := 11) (oi := { dst := some 150, op := Op.load 3 (Operand.tmp 149), type := 3, pos := "ref.go:245", after := #[{ on := 10, ground := Ground.data }], guard := none }) (v := ?_) rfl (by kernel_rfl) (by kernel_rfl) (by kernel_rfl) (fun _ _ _ h => h) (Or.inl ⟨by rfl, ?_⟩) (by assumption) ?_
                    rotate_left 1
                    · intro w hSw; (try dsimp only at hSw); go_simp <;> with_reducible rfl
                    try simp only [Act.put, List.setIfInBounds_toArray, List.set_cons_zero, List.set_cons_succ]
                    refine wpAnyH_take (i := 12) (oi := { dst := some 151, op := Op.binOp BinOp.neq 3 (Operand.tmp 144) (Operand.tmp 150) 3, type := 4, pos := "ref.go:245", after := #[{ on := 5, ground := Ground.data }, { on := 11, ground := Ground.data }], guard := none }) (v := ?_) rfl (by kernel_rfl) (by kernel_rfl) (by kernel_rfl) (fun _ _ _ h => h) (Or.inl ⟨by rfl, ?_⟩) (by assumption) ?_
                    rotate_left 1
                    · intro w hSw; (try dsimp only at hSw); go_simp <;> with_reducible rfl
                    try simp only [Act.put, List.setIfInBounds_toArray, List.set_cons_zero, List.set_cons_succ]
                    refine wpAnyH_take (i := 13) (oi := { dst := some 152, op := Op.move (Operand.tmp 151), type := 4, pos := "ref.go:245", after := #[{ on := 12, ground := Ground.data }], guard := none }) (v := ?_) rfl (by kernel_rfl) (by kernel_rfl) (by kernel_rfl) (fun _ _ _ h => h) (Or.inl ⟨by rfl, ?_⟩) (by assumption) ?_
                    rotate_left 1
                    · intro w hSw; (try dsimp only at hSw); go_simp <;> with_reducible rfl
                    try simp only [Act.put, List.setIfInBounds_toArray, List.set_cons_zero, List.set_cons_succ]
                    refine wpAnyH_take (i := 14) (oi := { dst := some 153, op := Op.fieldAddr 27 (Operand.tmp 2) 3, type := 0, pos := "ref.go:245", after := #[{ on := 13, ground := Ground.guard }], guard := some (13, false) }) (v := ?_) rfl (by kernel_rfl) (by kernel_rfl) (by kernel_rfl) (fun _ _ _ h => h) (Or.inl ⟨by rfl, ?_⟩) (by assumption) ?_
                    rotate_left 1
                    · intro w hSw; (try dsimp only at hSw); go_simp <;> with_reducible rfl
                    try simp only [Act.put, List.setIfInBounds_toArray, List.set_cons_zero, List.set_cons_succ]
                    refine wpAnyH_take (i := 15) (oi := { dst := some 154, op := Op.load 25 (Operand.tmp 153), type := 25, pos := "ref.go:245", after := #[{ on := 14, ground := Ground.data }, { on := 13, ground := Ground.guard }], guard := some (13, false) }) (v := ?_) rfl (by kernel_rfl) (by kernel_rfl) (by kernel_rfl) (fun _ _ _ h => h) (Or.inl ⟨by rfl, ?_⟩) (by assumption) ?_
                    rotate_left 1
                    · intro w hSw; (try dsimp only at hSw); go_simp <;> with_reducible rfl
                    try simp only [Act.put, List.setIfInBounds_toArray, List.set_cons_zero, List.set_cons_succ]
                    refine wpAnyH_take (i := 16) (oi := { dst := some 155, op := Op.move (Operand.tmp 10), type := 3, pos := "ref.go:245", after := #[{ on := 13, ground := Ground.guard }], guard := some (13, false) }) (v := ?_) rfl (by kernel_rfl) (by kernel_rfl) (by kernel_rfl) (fun _ _ _ h => h) (Or.inl ⟨by rfl, ?_⟩) (by assumption) ?_
                    rotate_left 1
                    · intro w hSw; (try dsimp only at hSw); go_simp <;> with_reducible rfl
                    try simp only [Act.put, List.setIfInBounds_toArray, List.set_cons_zero, List.set_cons_succ]
                    refine wpAnyH_take (i := 17) (oi := { dst := some 156, op := Op.indexAddr 25 (Operand.tmp 154) (Operand.tmp 155), type := 0, pos := "ref.go:245", after := #[{ on := 15, ground := Ground.data }, { on := 16, ground := Ground.data }, { on := 13, ground := Ground.guard }], guard := some (13, false) }) (v := ?_) rfl (by kernel_rfl) (by kernel_rfl) (by kernel_rfl) (fun _ _ _ h => h) (Or.inl ⟨by rfl, ?_⟩) (by assumption) ?_
                    rotate_left 1
                    · intro w hSw; (try dsimp only at hSw); go_simp <;> with_reducible rfl
                    try simp only [Act.put, List.setIfInBounds_toArray, List.set_cons_zero, List.set_cons_succ]
                    refine wpAnyH_take (i := 18) (oi := { dst := some 157, op := Op.fieldAddr 55 (Operand.tmp 156) 1, type := 0, pos := "ref.go:245", after := #[{ on := 17, ground := Ground.data }, { on := 13, ground := Ground.guard }], guard := some (13, false) }) (v := ?_) rfl (by kernel_rfl) (by kernel_rfl) (by kernel_rfl) (fun _ _ _ h => h) (Or.inl ⟨by rfl, ?_⟩) (by assumption) ?_
                    rotate_left 1
                    · intro w hSw; (try dsimp only at hSw); go_simp <;> with_reducible rfl
                    try simp only [Act.put, List.setIfInBounds_toArray, List.set_cons_zero, List.set_cons_succ]
                    refine wpAnyH_take (i := 19) (oi := { dst := some 158, op := Op.load 53 (Operand.tmp 157), type := 53, pos := "ref.go:245", after := #[{ on := 18, ground := Ground.data }, { on := 13, ground := Ground.guard }], guard := some (13, false) }) (v := ?_) rfl (by kernel_rfl) (by kernel_rfl) (by kernel_rfl) (fun _ _ _ h => h) (Or.inl ⟨by rfl, ?_⟩) (by assumption) ?_
                    rotate_left 1
                    · intro w hSw; (try dsimp only at hSw); go_simp <;> with_reducible rfl
                    try simp only [Act.put, List.setIfInBounds_toArray, List.set_cons_zero, List.set_cons_succ]
                    refine wpAnyH_take (i := 20) (oi := { dst := some 159, op := Op.fieldAddr 27 (Operand.tmp 3) 3, type := 0, pos := "ref.go:245", after := #[{ on := 13, ground := Ground.guard }], guard := some (13, false) }) (v := ?_) rfl (by kernel_rfl) (by kernel_rfl) (by kernel_rfl) (fun _ _ _ h => h) (Or.inl ⟨by rfl, ?_⟩) (by assumption) ?_
                    rotate_left 1
                    · intro w hSw; (try dsimp only at hSw); go_simp <;> with_reducible rfl
                    try simp only [Act.put, List.setIfInBounds_toArray, List.set_cons_zero, List.set_cons_succ]
                    refine wpAnyH_take (i := 21) (oi := { dst := some 160, op := Op.load 25 (Operand.tmp 159), type := 25, pos := "ref.go:245", after := #[{ on := 20, ground := Ground.data }, { on := 13, ground := Ground.guard }], guard := some (13, false) }) (v := ?_) rfl (by kernel_rfl) (by kernel_rfl) (by kernel_rfl) (fun _ _ _ h => h) (Or.inl ⟨by rfl, ?_⟩) (by assumption) ?_
                    rotate_left 1
                    · intro w hSw; (try dsimp only at hSw); go_simp <;> with_reducible rfl
                    try simp only [Act.put, List.setIfInBounds_toArray, List.set_cons_zero, List.set_cons_succ]
                    refine wpAnyH_take (i := 22) (oi := { dst := some 161, op := Op.move (Operand.tmp 10), type := 3, pos := "ref.go:245", after := #[{ on := 13, ground := Ground.guard }], guard := some (13, false) }) (v := ?_) rfl (by kernel_rfl) (by kernel_rfl) (by kernel_rfl) (fun _ _ _ h => h) (Or.inl ⟨by rfl, ?_⟩) (by assumption) ?_
                    rotate_left 1
                    · intro w hSw; (try dsimp only at hSw); go_simp <;> with_reducible rfl
                    try simp only [Act.put, List.setIfInBounds_toArray, List.set_cons_zero, List.set_cons_succ]
                    refine wpAnyH_take (i := 23) (oi := { dst := some 162, op := Op.indexAddr 25 (Operand.tmp 160) (Operand.tmp 161), type := 0, pos := "ref.go:245", after := #[{ on := 21, ground := Ground.data }, { on := 22, ground := Ground.data }, { on := 13, ground := Ground.guard }], guard := some (13, false) }) (v := ?_) rfl (by kernel_rfl) (by kernel_rfl) (by kernel_rfl) (fun _ _ _ h => h) (Or.inl ⟨by rfl, ?_⟩) (by assumption) ?_
                    rotate_left 1
                    · intro w hSw; (try dsimp only at hSw); go_simp <;> with_reducible rfl
                    try simp only [Act.put, List.setIfInBounds_toArray, List.set_cons_zero, List.set_cons_succ]
                    refine wpAnyH_take (i := 24) (oi := { dst := some 163, op := Op.fieldAddr 55 (Operand.tmp 162) 1, type := 0, pos := "ref.go:245", after := #[{ on := 23, ground := Ground.data }, { on := 13, ground := Ground.guard }], guard := some (13, false) }) (v := ?_) rfl (by kernel_rfl) (by kernel_rfl) (by kernel_rfl) (fun _ _ _ h => h) (Or.inl ⟨by rfl, ?_⟩) (by assumption) ?_
                    rotate_left 1
                    · intro w hSw; (try dsimp only at hSw); go_simp <;> with_reducible rfl
                    try simp only [Act.put, List.setIfInBounds_toArray, List.set_cons_zero, List.set_cons_succ]
                    refine wpAnyH_take (i := 25) (oi := { dst := some 164, op := Op.load 53 (Operand.tmp 163), type := 53, pos := "ref.go:245", after := #[{ on := 24, ground := Ground.data }, { on := 13, ground := Ground.guard }], guard := some (13, false) }) (v := ?_) rfl (by kernel_rfl) (by kernel_rfl) (by kernel_rfl) (fun _ _ _ h => h) (Or.inl ⟨by rfl, ?_⟩) (by assumption) ?_
                    rotate_left 1
                    · intro w hSw; (try dsimp only at hSw); go_simp <;> with_reducible rfl
                    try simp only [Act.put, List.setIfInBounds_toArray, List.set_cons_zero, List.set_cons_succ]
                    refine wpAnyH_ready (rs := [26]) (by kernel_rfl) (by simp) ?_
                    refine AllReadyH.cons (o := { dst := some 165, op := Op.call { callee := Callee.value (Operand.func 43), args := #[Operand.tmp 158, Operand.tmp 164], argTypes := #[53, 53] }, type := 4, pos := "ref.go:245", after := #[{ on := 19, ground := Ground.data }, { on := 25, ground := Ground.data }, { on := 13, ground := Ground.chain }, { on := 13, ground := Ground.guard }], guard := some (13, false) }) rfl (fun K9 hK => ?_) ?_
                    · go_simp
                      with_reducible refine (PB.out).mono ?_
                      rintro e1 w4 ⟨rfl, hb4⟩
                      have hq9 := Lib.hid (And.intro (cell_up hb4 a3) (And.intro (cell_up hb4 a8) (And.intro (cell_up hb4 d0) (And.intro (cell_up hb4 d1) (And.intro (cell_up hb4 f0) (cell_up hb4 f1))))))
                      replace hS := Lib.hid (hS.out.up hb4)
                      clear hb4 PB a3 a8 d0 d1 f0 f1
                      go_wp2_with fail
                      refine hK.out _ _ ?_ ?_
                      · (try dsimp only); exact hq9.out
                      clear hK K9 hHeld; intro hHeld
                      try simp only [Act.put, List.setIfInBounds_toArray, List.set_cons_zero, List.set_cons_succ]
                      refine wpAnyH_take (i := 27) (oi := { dst := some 166, op := Op.unOp UnOp.not 4 (Operand.tmp 165), type := 4, pos := "ref.go:245", after := #[{ on := 26, ground := Ground.data }, { on := 13, ground := Ground.guard }], guard := some (13, false) }) (v := ?_) rfl (by kernel_rfl) (by kernel_rfl) (by kernel_rfl) (fun _ _ _ h => h) (Or.inl ⟨by rfl, ?_⟩) (by assumption) ?_
                      rotate_left 1
                      · intro w hSw; (try dsimp only at hSw); go_simp <;> with_reducible rfl
                      try simp only [Act.put, List.setIfInBounds_toArray, List.set_cons_zero, List.set_cons_succ]
                      refine wpAnyH_take (i := 28) (oi := { dst := some 167, op := Op.pick (Operand.tmp 152) (Operand.const (Value.bool true)) (Operand.tmp 166), type := 4, pos := "ref.go:245", after := #[{ on := 13, ground := Ground.data }, { on := 27, ground := Ground.data }], guard := none }) (v := ?_) rfl (by kernel_rfl) (by kernel_rfl) (by kernel_rfl) (fun _ _ _ h => h) (Or.inl ⟨by rfl, ?_⟩) (by assumption) ?_
                      rotate_left 1
                      · intro w hSw; (try dsimp only at hSw); go_simp <;> with_reducible rfl
                      try simp only [Act.put, List.setIfInBounds_toArray, List.set_cons_zero, List.set_cons_succ]
                      refine wpAnyH_done (by kernel_rfl) ?_ _
                      go_wp2
                      go_ret
                      exact ⟨congrArg (fun b => Ending.returned (Value.bool b)) e.out.symm, hS.out.bel⟩
                    exact AllReadyH.nil
                · as_aux_lemma =>
                  have hlt' : decide ((k : Int) < (l4 : Int)) = false := by simp; omega
                  have eqF : Hid (U.objects = V.objects) := Lib.hid (hE.out.all (by obtain ⟨h1, h2, h3, h4, h5, h6, h7, h8⟩ := hS.out.lens; omega) (by obtain ⟨h1, h2, h3, h4, h5, h6, h7, h8⟩ := hS.out.lens; omega))
                  obtain ⟨a0, a1, a2, a3, a4, a5, a6, a7, a8, a9⟩ := hS.out.cells
                  clear hE
                  have e : Hid (sameU U V = true) := Lib.hid ((sameU_iff U V).2 (by
                    have q1 := Q1.out
                    have q2 := Q2.out
                    have q3 := Q3.out
                    have q4 := eqF.out
                    have q5 := g5h.out
                    cases U; cases V
                    simp only at q1 q2 q3 q4 q5
                    rw [q1, q2, q3, q4, q5]))
                  go_wp2
                  go_ret
                  exact ⟨congrArg (fun b => Ending.returned (Value.bool b)) e.out.symm, hS.out.bel⟩
end Wd
end Go.Proofs.YtgfnelhbdhbklaaGreat

/- An append of a row of whatever is read, none too (names, methods, objects besides). -/
namespace Go.Proofs.YtgfnelhbdhbklaaGreat
open Go.RowKit
set_option linter.unusedVariables false
set_option maxRecDepth 20000
namespace Wd
/-- what an append reads: cells of m elements -/
def Rd (w : World) (u : Value) (m : Nat) (news : List Value) : Prop := (∃ c, u = .slice none 0 c ∧ m = 0 ∧ news = []) ∨ ∃ ad c, u = .slice (some ad) m c ∧ ∀ j x, news[j]? = some x → w.cell? (ad.add j) = some x
theorem Rd.up {w w1 : World} {u : Value} {m : Nat} {news : List Value} (h : Rd w u m news) (b : Below w.heap.size w w1) : Rd w1 u m news := by
  rcases h with h | ⟨ad, c, e, hc⟩
  · exact Or.inl h
  · exact Or.inr ⟨ad, c, e, fun j x hx => cell_up b (hc j x hx)⟩
theorem run_app_none {P : Program} (w : World) (base : Nat) (t ty e : TypeId) (i : TypeInfo) (size n c : Nat) (ht : P.underlying t = some (.slice e)) (hi : P.info? e = some i) (v : Value) (xs : List Value) (hown : w.ownsRow base e size v n xs) :
    (Builtin.append_ #[t, t] ty #[v, .slice none 0 c]).run P w = .ok v w := by
  rcases hown.2 with ⟨rfl, rfl⟩ | ⟨g, cap, cur, rfl, _, _, hle, _⟩
  · simp [Builtin.append_, run_underlying ht, sizeOf, typeInfo, hi, Builtin.lenOf, Builtin.firstCells]
  · simp [Builtin.append_, run_underlying ht, sizeOf, typeInfo, hi, Builtin.lenOf, Builtin.firstCells, hle, storeCells]
theorem run_app_any {P : Program} (w : World) (base : Nat) (t ty e : TypeId) (i : TypeInfo) (z : Value) (size bytes : Nat) (ht : P.underlying t = some (.slice e)) (hi : P.info? e = some i) (hz : i.zero = some z)
    (hsize : i.size = size) (hby : i.bytes = bytes) (hzs : z.cells.size = size) (hsz : 0 < size)
    (v u : Value) (n m : Nat) (xs news : List Value) (hown : w.ownsRow base e size v n xs) (hu : Rd w u m news) (hl : news.length = m * size) (h1 : ∀ u ∈ news, u.oneCell' = true)
    (h63 : n + m ≤ maxLen) (hbytes : (n + m) * bytes ≤ 140737488355328) (hbase : base ≤ w.heap.size) :
    ∃ v' w', (Builtin.append_ #[t, t] ty #[v, u]).run P w = .ok v' w' ∧ w'.ownsRow base e size v' (n + m) (xs ++ news) ∧ w.grownBy w' v.ownBlock ∧ (v'.ownBlock = v.ownBlock ∨ v'.ownBlock = some w.heap.size) := by
  rcases hu with ⟨c, rfl, rfl, rfl⟩ | ⟨ad, c, rfl, hc⟩
  · exact ⟨v, w, run_app_none w base t ty e i size n c ht hi v xs hown, by simpa using hown, grown_refl _ _, Or.inl rfl⟩
  · obtain ⟨v', w', hr, h2, h3, _, h5⟩ := run_append_own_at (P := P) w base t ty e i z size bytes ht hi hz hsize hby hzs hsz v n xs hown ad m c news hl hc h1 h63 hbytes hbase
    exact ⟨v', w', hr, h2, h3, h5⟩
theorem wpList_app_any {P : Program} {w : World} {ops : Array Oper} {rest : List Oper} {o : Oper} {a : Act} {Q : Exit → Act → World → Prop} (hgd : o.guard = none) (s x : Operand) (t : TypeId)
    (ho : o.op = .call { callee := .builtin .append, args := #[s, x], argTypes := #[t, t] })
    (base : Nat) (e : TypeId) (i : TypeInfo) (z : Value) (size bytes : Nat) (ht : P.underlying t = some (.slice e)) (hi : P.info? e = some i) (hz : i.zero = some z)
    (hsize : i.size = size) (hby : i.bytes = bytes) (hzs : z.cells.size = size) (hsz : 0 < size)
    (v u : Value) (n m : Nat) (xs news : List Value) (hs : a.eval s = v) (hx : a.eval x = u) (hown : w.ownsRow base e size v n xs) (hu : Rd w u m news) (hl : news.length = m * size) (h1 : ∀ u ∈ news, u.oneCell' = true)
    (h63 : n + m ≤ maxLen) (hbytes : (n + m) * bytes ≤ 140737488355328) (hbase : base ≤ w.heap.size)
    (h : ∀ v' w', w'.ownsRow base e size v' (n + m) (xs ++ news) → w.grownBy w' v.ownBlock → (v'.ownBlock = v.ownBlock ∨ v'.ownBlock = some w.heap.size) → wpList P ops Q rest (a.put o.dst v') w') : wpList P ops Q (o :: rest) a w := by
  refine wpList_plain hgd fun K hK => ?_
  obtain ⟨v', w', hr, h2, h3, h5⟩ := run_app_any (P := P) w base t o.type e i z size bytes ht hi hz hsize hby hzs hsz v u n m xs news hown hu hl h1 h63 hbytes hbase
  unfold Oper.wp execOp
  simp only [ho, resolve, invoke, builtin, Sem.run_bind, Sem.run_pure, Result.andThen_ok, List.map_toArray, List.map_cons, List.map_nil, hs, hx, hr]
  exact hK _ _ (h v' w' h2 h3 h5)
theorem ClV.rd {w : World} {v : Value} {L : List ClassA} (h : ClV w v L) : ∃ T : List (ClassA × Value), T.map (·.1) = L ∧ (∀ x ∈ T, In64 x.1.super ∧ In64 x.1.fields ∧ PrV w x.2 x.1.binds) ∧ Rd w v L.length (cl4s T) := by
  obtain ⟨ad, cap, rfl, hc, hm⟩ := h.form
  obtain ⟨T, e, hT, hcell⟩ := h.cells
  refine ⟨T, e, hT, ?_⟩
  have hl : T.length = L.length := by rw [← e]; simp
  cases ad with
  | none =>
    left
    have hz : cl4s T = [] := by
      cases hq : cl4s T with
      | nil => rfl
      | cons x X =>
        obtain ⟨g, off, e, _⟩ := hcell 0 x (by rw [hq]; rfl)
        cases e
    have hz0 : T.length = 0 := by
      have := cl4s_len T
      rw [hz] at this
      simp at this; omega
    exact ⟨cap, by rw [← hl, hz0], by rw [← hl, hz0], hz⟩
  | some ad =>
    right
    refine ⟨ad, cap, rfl, fun j x hx => ?_⟩
    obtain ⟨g, off, e, hc⟩ := hcell j x hx
    cases e
    rw [Addr.add_lit]
    exact hc
theorem PrV.cells {w : World} {ad : Option Addr} {n cap : Nat} {L : List (Int × Int)} (h : PrV w (.slice ad n cap) L) : ∀ k u, (pr2 L)[k]? = some u → ∃ g off, ad = some ⟨g, off, none⟩ ∧ w.cell? ⟨g, off + k, none⟩ = some u := by
  intro k u hk
  obtain ⟨q, r, hr, rfl⟩ : ∃ q r, r < 2 ∧ k = q * 2 + r := ⟨k / 2, k % 2, by omega, by omega⟩
  have hq : q < L.length := by have := (List.getElem?_eq_some_iff.1 hk).1; rw [pr2_len] at this; omega
  obtain ⟨x, hx⟩ : ∃ x, L[q]? = some x := ⟨L[q], by simp⟩
  obtain ⟨_, _, g, off, e, c0, c1⟩ := h.at hx
  obtain ⟨p0, p1⟩ := pr2_get L q x hx
  refine ⟨g, off, e, ?_⟩
  rcases (show r = 0 ∨ r = 1 by omega) with rfl | rfl
  · rw [Nat.add_zero] at hk ⊢
    rw [p0] at hk; cases hk
    exact c0
  · rw [p1] at hk; cases hk
    exact c1
theorem PrV.rd {w : World} {v : Value} {L : List (Int × Int)} (h : PrV w v L) : Rd w v L.length (pr2 L) := by
  obtain ⟨ad, cap, rfl, hc, hm⟩ := h.form
  have hcell := h.cells
  cases ad with
  | none =>
    left
    have hz : L.length = 0 := by
      cases L with
      | nil => rfl
      | cons x X =>
        obtain ⟨g, off, e, _⟩ := hcell 0 (.int .i64 x.1) (by simp [pr2])
        cases e
    exact ⟨cap, by rw [hz], hz, by rw [List.length_eq_zero_iff.1 hz]; rfl⟩
  | some ad =>
    right
    refine ⟨ad, cap, rfl, fun j x hx => ?_⟩
    obtain ⟨g, off, e, hc⟩ := hcell j x hx
    cases e
    rw [Addr.add_lit]
    exact hc
theorem PrV.b64 {w : World} {v : Value} {L : List (Int × Int)} (h : PrV w v L) : ∀ x ∈ L, In64 x.1 ∧ In64 x.2 := by
  intro x hx
  obtain ⟨ad, cap, rfl, _⟩ := h.form
  obtain ⟨k, hk⟩ := List.getElem?_of_mem hx
  obtain ⟨a, b, _⟩ := h.at hk
  exact ⟨a, b⟩
/-- an empty row -/
theorem made_none (w : World) (T : TypeId) (sz base : Nat) (hb : base ≤ w.heap.size) : (w.alloc (.cells #[] T)).ownsRow base T sz (.slice (some ⟨w.heap.size, 0, none⟩) 0 0) 0 [] := World.ownsRow_made w #[] 0 hb (by decide) (by simp)
theorem PrV.nil (w : World) : PrV w (.slice none 0 0) [] := ⟨none, 0, rfl, by simp, by decide, fun k x hx => by simp at hx⟩
theorem ByV.nil (w : World) : ByV w (.slice none 0 0) [] := ⟨none, 0, rfl, by simp, by decide, fun k x hx => by simp at hx⟩
theorem ByV.rd {w : World} {v : Value} {L : List Int} (h : ByV w v L) : Rd w v L.length (bys L) := by
  obtain ⟨ad, cap, rfl, hc, hm⟩ := h.form
  cases ad with
  | none =>
    left
    have hz : L = [] := by
      cases L with
      | nil => rfl
      | cons x X =>
        obtain ⟨_, g, off, e, _⟩ := h.at (k := 0) (x := x) rfl
        cases e
    subst hz
    exact ⟨cap, rfl, rfl, rfl⟩
  | some ad =>
    right
    refine ⟨ad, cap, rfl, fun j x hx => ?_⟩
    obtain ⟨y, hy, rfl⟩ : ∃ y, L[j]? = some y ∧ .int .u8 y = x := by simpa [bys] using hx
    obtain ⟨_, g, off, e, c0⟩ := h.at hy
    cases e
    rw [Addr.add_lit]
    exact c0
theorem rd_cells {w : World} {ad : Option Addr} {n cap size : Nat} {xs : List Value} (hl : xs.length = n * size) (hs : 0 < size) (hc : ∀ k u, xs[k]? = some u → ∃ g off, ad = some ⟨g, off, none⟩ ∧ w.cell? ⟨g, off + k, none⟩ = some u) : Rd w (.slice ad n cap) n xs := by
  cases ad with
  | none =>
    left
    have hz : xs = [] := by
      cases xs with
      | nil => rfl
      | cons x X => obtain ⟨g, off, e, _⟩ := hc 0 x rfl; cases e
    subst hz
    have hn : n = 0 := by
      rcases Nat.eq_zero_or_pos n with h | h
      · exact h
      · have := Nat.mul_pos h hs; simp at hl; omega
    exact ⟨cap, by rw [hn], hn, rfl⟩
  | some ad =>
    right
    refine ⟨ad, cap, rfl, fun j x hx => ?_⟩
    obtain ⟨g, off, e, h⟩ := hc j x hx
    cases e
    rw [Addr.add_lit]
    exact h
theorem pick_list {α : Type} {R : Nat → α → Prop} : ∀ n, (∀ k, k < n → ∃ x, R k x) → ∃ L : List α, L.length = n ∧ ∀ (k : Nat) x, L[k]? = some x → R k x
  | 0, _ => ⟨[], rfl, fun k x h => by simp at h⟩
  | n + 1, h => by
    obtain ⟨L, hl, hL⟩ := pick_list n (fun k hk => h k (by omega))
    obtain ⟨x, hx⟩ := h n (by omega)
    refine ⟨L ++ [x], by simp [hl], fun k y hy => ?_⟩
    by_cases hk : k < n
    · rw [List.getElem?_append_left (by omega)] at hy
      exact hL k y hy
    · rw [List.getElem?_append_right (by omega)] at hy
      have h0 := (List.getElem?_eq_some_iff.1 hy).1
      simp at h0
      have e : k = n := by omega
      subst e
      rw [hl, Nat.sub_self] at hy
      simp at hy
      subst hy
      exact hx
theorem strs_len (L : List ByteArray) : (strs L).length = L.length := by simp [strs]
theorem strs_one (L : List ByteArray) : ∀ u ∈ strs L, u.oneCell' = true := by
  intro u hu
  obtain ⟨x, _, rfl⟩ : ∃ x, x ∈ L ∧ Value.string x = u := by simpa [strs] using hu
  rfl
theorem NmV.rd {w : World} {v : Value} {L : List ByteArray} (h : NmV w v L) : Rd w v L.length (strs L) := by
  obtain ⟨ad, cap, rfl, _, _, h3⟩ := h.ex
  refine rd_cells (size := 1) (by simp [strs]) (by decide) (fun k u hk => ?_)
  obtain ⟨x, hx, rfl⟩ : ∃ x, L[k]? = some x ∧ Value.string x = u := by simpa [strs] using hk
  exact h3 k x hx
theorem MtV.rd {w : World} {v : Value} {L : List MethA} (h : MtV w v L) : ∃ M : List (MethA × Value × Value), M.map (·.1) = L ∧ (∀ x ∈ M, In64 x.1.args ∧ In64 x.1.temps ∧ PrV w x.2.1 x.1.lits ∧ ByV w x.2.2 x.1.code) ∧ Rd w v L.length (mt4s M) := by
  obtain ⟨ad, cap, rfl, _, _, h3⟩ := h.ex
  obtain ⟨M, hl, hM⟩ := pick_list (R := fun (k : Nat) (x : MethA × Value × Value) => L[k]? = some x.1 ∧ In64 x.1.args ∧ In64 x.1.temps ∧ (∃ g off, ad = some ⟨g, off, none⟩ ∧ w.cell? ⟨g, off + k * 4, none⟩ = some (.int .i64 x.1.args) ∧ w.cell? ⟨g, off + k * 4 + 1, none⟩ = some (.int .i64 x.1.temps) ∧ w.cell? ⟨g, off + k * 4 + 2, none⟩ = some x.2.1 ∧ w.cell? ⟨g, off + k * 4 + 3, none⟩ = some x.2.2) ∧ PrV w x.2.1 x.1.lits ∧ ByV w x.2.2 x.1.code) L.length (fun k hk => by
    obtain ⟨x, hx⟩ : ∃ x, L[k]? = some x := ⟨L[k], by simp⟩
    obtain ⟨i1, i2, g, off, lv, cv, e, c0, c1, c2, c3, p, q⟩ := h3 k x hx
    exact ⟨(x, lv, cv), hx, i1, i2, ⟨g, off, e, c0, c1, c2, c3⟩, p, q⟩)
  refine ⟨M, ?_, fun x hx => ?_, rd_cells (size := 4) (by rw [mt4s_len, hl]) (by decide) (fun k u hk => ?_)⟩
  · apply List.ext_getElem?
    intro k
    rw [List.getElem?_map]
    cases hx : M[k]? with
    | none =>
      have : L.length ≤ k := by rw [← hl]; exact List.getElem?_eq_none_iff.1 hx
      rw [List.getElem?_eq_none this]; rfl
    | some x => exact (hM k x hx).1.symm
  · obtain ⟨k, hk⟩ := List.getElem?_of_mem hx
    obtain ⟨_, i1, i2, _, p, q⟩ := hM k x hk
    exact ⟨i1, i2, p, q⟩
  · obtain ⟨q, r, hr, rfl⟩ : ∃ q r, r < 4 ∧ k = q * 4 + r := ⟨k / 4, k % 4, by omega, by omega⟩
    have hq : q < M.length := by have := (List.getElem?_eq_some_iff.1 hk).1; rw [mt4s_len] at this; omega
    obtain ⟨x, hx⟩ : ∃ x, M[q]? = some x := ⟨M[q], by simp⟩
    obtain ⟨_, _, _, ⟨g, off, e, c0, c1, c2, c3⟩, _⟩ := hM q x hx
    obtain ⟨p0, p1, p2, p3⟩ := mt4s_get M q x hx
    refine ⟨g, off, e, ?_⟩
    rcases (show r = 0 ∨ r = 1 ∨ r = 2 ∨ r = 3 by omega) with rfl | rfl | rfl | rfl
    · rw [Nat.add_zero] at hk ⊢; rw [p0] at hk; cases hk; exact c0
    · rw [p1] at hk; cases hk; exact c1
    · rw [p2] at hk; cases hk; exact c2
    · rw [p3] at hk; cases hk; exact c3
theorem ObV.rd {w : World} {v : Value} {L : List ObjA} (h : ObV w v L) : ∃ M : List (ObjA × Value), M.map (·.1) = L ∧ (∀ x ∈ M, In64 x.1.cls ∧ PrV w x.2 x.1.flds) ∧ Rd w v L.length (ob2s M) := by
  obtain ⟨ad, cap, rfl, _, _, h3⟩ := h.ex
  obtain ⟨M, hl, hM⟩ := pick_list (R := fun (k : Nat) (x : ObjA × Value) => L[k]? = some x.1 ∧ In64 x.1.cls ∧ (∃ g off, ad = some ⟨g, off, none⟩ ∧ w.cell? ⟨g, off + k * 2, none⟩ = some (.int .i64 x.1.cls) ∧ w.cell? ⟨g, off + k * 2 + 1, none⟩ = some x.2) ∧ PrV w x.2 x.1.flds) L.length (fun k hk => by
    obtain ⟨x, hx⟩ : ∃ x, L[k]? = some x := ⟨L[k], by simp⟩
    obtain ⟨i1, g, off, fv, e, c0, c1, p⟩ := h3 k x hx
    exact ⟨(x, fv), hx, i1, ⟨g, off, e, c0, c1⟩, p⟩)
  refine ⟨M, ?_, fun x hx => ?_, rd_cells (size := 2) (by rw [ob2s_len, hl]) (by decide) (fun k u hk => ?_)⟩
  · apply List.ext_getElem?
    intro k
    rw [List.getElem?_map]
    cases hx : M[k]? with
    | none =>
      have : L.length ≤ k := by rw [← hl]; exact List.getElem?_eq_none_iff.1 hx
      rw [List.getElem?_eq_none this]; rfl
    | some x => exact (hM k x hx).1.symm
  · obtain ⟨k, hk⟩ := List.getElem?_of_mem hx
    obtain ⟨_, i1, _, p⟩ := hM k x hk
    exact ⟨i1, p⟩
  · obtain ⟨q, r, hr, rfl⟩ : ∃ q r, r < 2 ∧ k = q * 2 + r := ⟨k / 2, k % 2, by omega, by omega⟩
    have hq : q < M.length := by have := (List.getElem?_eq_some_iff.1 hk).1; rw [ob2s_len] at this; omega
    obtain ⟨x, hx⟩ : ∃ x, M[q]? = some x := ⟨M[q], by simp⟩
    obtain ⟨_, _, ⟨g, off, e, c0, c1⟩, _⟩ := hM q x hx
    obtain ⟨p0, p1⟩ := ob2s_get M q x hx
    refine ⟨g, off, e, ?_⟩
    rcases (show r = 0 ∨ r = 1 by omega) with rfl | rfl
    · rw [Nat.add_zero] at hk ⊢; rw [p0] at hk; cases hk; exact c0
    · rw [p1] at hk; cases hk; exact c1
end Wd
end Go.Proofs.YtgfnelhbdhbklaaGreat
