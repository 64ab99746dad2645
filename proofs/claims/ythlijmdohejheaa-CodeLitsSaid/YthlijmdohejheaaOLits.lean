/- CodeLits, over what the laws ask of the package. -/
import Derived.Test.YthlijmdohejheaaOMap
import Derived.Test.YthlijmdohejheaaOBytes
namespace Go.Proofs.Ythlijmdohejheaa
open Go.RowKit Go.Maps
set_option linter.unusedVariables false
set_option maxRecDepth 20000
namespace Wd
theorem has_two {kd x : Int} {a : Nat} (ha : a < 4) (w : Int) : hasLit [(kd, x), (kd, x)] (a : Int) w = (decide ((a : Int) < 2) && decide (kd = w)) := by
  unfold hasLit litAt
  rcases (show a = 0 ∨ a = 1 ∨ a = 2 ∨ a = 3 by omega) with rfl | rfl | rfl | rfl <;> rfl
theorem lits_met {s v kd x : Int} {a nn nc nm : Nat} (hw : (s = 2 ∧ v = 3) ∨ (s = 12 ∧ v = 5) ∨ (s = 13 ∧ v = 5) ∨ (s = 20 ∧ v = 6) ∨ (s = 18 ∧ v = 7)) (ha : a < 4) (hk : litR (kd, x) nn nc nm = true) (h2 : kd = 6 → 1 < x) : (metR ⟨0, 0, [(kd, x), (kd, x)], [s, (a : Int), 14, 0]⟩ nn nc nm == 0) = (decide ((a : Int) < 2) && decide (kd = v)) := by
  have hall : ([(kd, x), (kd, x)].all (fun y => litR y nn nc nm)) = true := by simp [hk]
  have hins : insF ⟨0, 0, [(kd, x), (kd, x)], [s, (a : Int), 14, 0]⟩ 2 0 = insR ⟨0, 0, [(kd, x), (kd, x)], [s, (a : Int), 14, 0]⟩ 0 s (a : Int) := by
    show (insR ⟨0, 0, [(kd, x), (kd, x)], [s, (a : Int), 14, 0]⟩ 0 s (a : Int) && (insR ⟨0, 0, [(kd, x), (kd, x)], [s, (a : Int), 14, 0]⟩ 2 14 0 && true)) = _
    rw [show insR ⟨0, 0, [(kd, x), (kd, x)], [s, (a : Int), 14, 0]⟩ 2 14 0 = true from rfl]
    simp
  have e : metR ⟨0, 0, [(kd, x), (kd, x)], [s, (a : Int), 14, 0]⟩ nn nc nm = if insR ⟨0, 0, [(kd, x), (kd, x)], [s, (a : Int), 14, 0]⟩ 0 s (a : Int) = false then 12 else 0 := by
    rw [met_t (by simp) (by simp) (by simp [byAt])]
    unfold metT
    rw [if_neg (by simp only; rw [hall]; decide)]
    rw [show (⟨0, 0, [(kd, x), (kd, x)], [s, (a : Int), 14, 0]⟩ : MethA).code.length / 2 = 2 by simp, hins]
  have key : insR ⟨0, 0, [(kd, x), (kd, x)], [s, (a : Int), 14, 0]⟩ 0 s (a : Int) = (decide ((a : Int) < 2) && decide (kd = v)) := by
    rcases hw with ⟨rfl, rfl⟩ | ⟨rfl, rfl⟩ | ⟨rfl, rfl⟩ | ⟨rfl, rfl⟩ | ⟨rfl, rfl⟩
    · exact has_two ha 3
    · exact has_two ha 5
    · exact has_two ha 5
    · show (hasLit [(kd, x), (kd, x)] (a : Int) 6 && decide ((litAt [(kd, x), (kd, x)] (a : Int)).2 > 1)) = _
      rw [has_two ha 6]
      by_cases h6 : kd = 6
      · have := h2 h6
        rcases (show a = 0 ∨ a = 1 ∨ a = 2 ∨ a = 3 by omega) with rfl | rfl | rfl | rfl <;> simp [litAt, h6, this]
      · simp [h6]
    · exact has_two ha 7
  rw [e, key]
  cases (decide ((a : Int) < 2) && decide (kd = v)) <;> rfl
theorem lits_me (W : World) (kd x s : Int) (a : Int) (hk : In64 kd) (hx : In64 x) (hs : 0 ≤ s ∧ s ≤ 255) (ha : 0 ≤ a ∧ a ≤ 255) : MeV ((W.alloc (.cells #[.int .i64 kd, .int .i64 x, .int .i64 kd, .int .i64 x] 41)).alloc (.cells #[.int .u8 s, .int .u8 a, .int .u8 14, .int .u8 0] 5)) (.agg #[.int .i64 0, .int .i64 0, .slice (some ⟨W.heap.size, 0, none⟩) 2 2, .slice (some ⟨W.heap.size + 1, 0, none⟩) 4 4]) ⟨0, 0, [(kd, x), (kd, x)], [s, a, 14, 0]⟩ := by
  have hp : PrV (W.alloc (.cells #[.int .i64 kd, .int .i64 x, .int .i64 kd, .int .i64 x] 41)) (.slice (some ⟨W.heap.size, 0, none⟩) 2 2) [(kd, x), (kd, x)] := by
    refine ⟨_, 2, rfl, by simp, by decide, fun k z hz => ?_⟩
    have hk2 : k < 2 := by have := (List.getElem?_eq_some_iff.1 hz).1; simpa using this
    rcases (show k = 0 ∨ k = 1 by omega) with rfl | rfl <;> (simp at hz; subst hz; exact ⟨hk, hx, _, 0, rfl, by simp, by simp⟩)
  have hs1 : (W.alloc (.cells #[.int .i64 kd, .int .i64 x, .int .i64 kd, .int .i64 x] 41)).heap.size = W.heap.size + 1 := by simp
  have hb : ByV ((W.alloc (.cells #[.int .i64 kd, .int .i64 x, .int .i64 kd, .int .i64 x] 41)).alloc (.cells #[.int .u8 s, .int .u8 a, .int .u8 14, .int .u8 0] 5)) (.slice (some ⟨W.heap.size + 1, 0, none⟩) 4 4) [s, a, 14, 0] := by
    rw [← hs1]
    refine ⟨_, 4, rfl, by simp, by decide, fun k z hz => ?_⟩
    have hk4 : k < 4 := by have := (List.getElem?_eq_some_iff.1 hz).1; simpa using this
    rcases (show k = 0 ∨ k = 1 ∨ k = 2 ∨ k = 3 by omega) with rfl | rfl | rfl | rfl <;> (simp at hz; subst hz; exact ⟨by omega, _, 0, rfl, by rw [World.cell?_alloc_new]; rfl⟩)
  exact MeV.of (hp.up ((Below.refl _ _).alloc (Nat.le_refl _) _)) hb in64_z in64_z
set_option maxHeartbeats 64000000 in
theorem lits_any (K : CodeK) (kind at_ n : Int) (hk : In64 kind) (ha : In64 at_) (hn : In64 n) (w : World) :
    Calls Try.prog 7 #[.int .i64 kind, .int .i64 at_, .int .i64 n] w fun e w' => e = .returned (.bool true) ∧ Below w.heap.size w w' := by
  have hmm := @run_makeMap Try.prog
  have PK := Lib.hid (fun w => within40_c kind 3 7 hk.1 hk.2 (by omega) (by omega) (by omega) w)
  have hka := within_bd kind 3 7 (by omega)
  generalize within kind 3 7 = kk at *
  have PA := Lib.hid (fun w => within40_c at_ 0 3 ha.1 ha.2 (by omega) (by omega) (by omega) w)
  have haa := within_bd at_ 0 3 (by omega)
  generalize within at_ 0 3 = an at *
  obtain ⟨a, rfl⟩ : ∃ o : Nat, an = (o : Int) := ⟨an.toNat, by omega⟩
  obtain ⟨y, hy, hy0, hy1⟩ : ∃ y, n.tmod 1073741824 = y ∧ -1073741824 < y ∧ y < 1073741824 := by
    obtain ⟨r, hr, h1, h2, _⟩ := tmod_split n 1073741824 (by omega)
    exact ⟨_, rfl, by omega, by omega⟩
  have wy : IntKind.i64.wrap y = y := by rw [IntKind.wrap_i64]; omega
  go_enter Try.func7, Try.ntmps7
  have PU := Lib.hid (unit_t (tape_tp (w := w) (ad := none) (n := 0) (cap := 0) (fun k hk => by omega) (by omega)))
  go_wp2_with fail
  with_reducible refine PU.out.mono ?_
  rintro e wu ⟨vU, U, ug, ucap, M, rfl, hU, hcg⟩
  have hBu := Lib.hid (unit_bel hcg)
  clear PU hcg
  obtain ⟨na, nc, ka, kc, oa, oc, rfl⟩ := hU.ex
  have hBa := (Below.refl wu.heap.size wu).alloc (Nat.le_refl _) (.cells #[.slice na U.names.length nc, .slice ka U.classes.length kc, .slice (some ⟨ug, 0, none⟩) U.methods.length ucap, .slice oa U.objects.length oc, .int .i64 U.main] 27)
  have hUB : Hid (UnC (wu.alloc (.cells #[.slice na U.names.length nc, .slice ka U.classes.length kc, .slice (some ⟨ug, 0, none⟩) U.methods.length ucap, .slice oa U.objects.length oc, .int .i64 U.main] 27)) wu.heap.size U na ka (some ⟨ug, 0, none⟩) oa nc kc ucap oc) := Lib.hid ⟨by simp, by simp, by simp, by simp, by simp⟩
  replace hU := Lib.hid (hU.up hBa)
  have hW1 := Lib.hid (hBu.out.trans (hBa.mono hBu.out.size))
  clear hBu hBa
  go_upto_region 2 with fail
  generalize wu.alloc (.cells #[.slice na U.names.length nc, .slice ka U.classes.length kc, .slice (some ⟨ug, 0, none⟩) U.methods.length ucap, .slice oa U.objects.length oc, .int .i64 U.main] 27) = W1 at *
  generalize wu.heap.size = q7 at *
  have hT := hU.out.ta
  have hlr : Hid (litR (3, y) U.names.length U.classes.length U.methods.length = true ∧ litR (kk, 2) U.names.length U.classes.length U.methods.length = decide (kk ≠ 4)) := by
    have e1 := hT.names
    have e2 := hT.cl0
    have e3 := hT.ml
    have e4 : nameL.length = 6 := rfl
    refine Lib.hid ⟨?_, ?_⟩
    · rw [lit_num]; unfold num30; rw [decide_eq_true (by omega), decide_eq_true (by omega)]; rfl
    · rcases (show kk = 3 ∨ kk = 4 ∨ kk = 5 ∨ kk = 6 ∨ kk = 7 by omega) with rfl | rfl | rfl | rfl | rfl
      · rfl
      · rfl
      · rw [lit_sel, inN_y (by omega), e1, e4]; rfl
      · rw [lit_cls, inN_y (by omega), decide_eq_true (by omega)]; rfl
      · rw [lit_blk, inN_y (by omega), e3]; rfl
  clear hT
  go_upto_region 4 with (first | (go_at_call 13; ((with_reducible refine (PK.out _).mono ?_); rintro e z1' ⟨rfl, hz1⟩; subst z1')))
  have hP9 : Pb (W1.alloc (.cells #[.int .i64 kk, .int .i64 2] 41)) W1.heap.size kk 2 := pairB W1 kk 2 41
  have hz9 : (W1.alloc (.cells #[.int .i64 kk, .int .i64 2] 41)).frozen? ⟨W1.heap.size, 0, none⟩ = false ∧ (W1.alloc (.cells #[.int .i64 kk, .int .i64 2] 41)).frozen? ⟨W1.heap.size, 1, none⟩ = false := ⟨World.frozen?_alloc_new _ _ _ _, World.frozen?_alloc_new _ _ _ _⟩
  have hB9 : Below W1.heap.size W1 (W1.alloc (.cells #[.int .i64 kk, .int .i64 2] 41)) := (Below.refl _ _).alloc (Nat.le_refl _) _
  generalize W1.alloc (.cells #[.int .i64 kk, .int .i64 2] 41) = W2 at *
  obtain ⟨x0, x1⟩ := hP9
  obtain ⟨z0, z1⟩ := hz9
  replace hB9 := Lib.hid hB9
  go_upto_if 22 with fail
  go_cut [] (fun wx => ∃ kd x : Int, (kd = 3 ∨ kd = 5 ∨ kd = 6 ∨ kd = 7) ∧ (-1073741824 ≤ x ∧ x ≤ 1073741824) ∧ Hid (Pb wx W1.heap.size kd x ∧ Below W1.heap.size W1 wx ∧ litR (kd, x) U.names.length U.classes.length U.methods.length = true ∧ (kd = 6 → 1 < x)))
  case first =>
    by_cases h4 : kk = 4
    · have c4 : (kk == 4) = true := by simpa using h4
      have hD : Hid (Pb ((W2.setCell ⟨W1.heap.size, 0, none⟩ (.int .i64 3)).setCell ⟨W1.heap.size, 1, none⟩ (.int .i64 y)) W1.heap.size 3 y ∧ Below W1.heap.size W1 ((W2.setCell ⟨W1.heap.size, 0, none⟩ (.int .i64 3)).setCell ⟨W1.heap.size, 1, none⟩ (.int .i64 y))) := Lib.hid ⟨⟨(World.cell?_setCell_other _ _ _ _ (by intro e; injection e with _ h2; omega)).trans (World.cell?_setCell_same _ _ _ x0), World.cell?_setCell_same _ _ _ ((World.cell?_setCell_other _ _ _ _ (by intro e; injection e with _ h2; omega)).trans x1)⟩, (hB9.out.setCell (Nat.le_refl _) _).setCell (Nat.le_refl _) _⟩
      clear h4
      go_wp2
      go_meet
      exact ⟨3, y, by omega, by omega, Lib.hid ⟨hD.out.1, hD.out.2, hlr.out.1, by omega⟩⟩
    · have c4 : (kk == 4) = false := by simpa using h4
      have hl2 : Hid (litR (kk, 2) U.names.length U.classes.length U.methods.length = true) := Lib.hid (by rw [hlr.out.2]; exact decide_eq_true h4)
      have h4' : Hid (kk = 3 ∨ kk = 5 ∨ kk = 6 ∨ kk = 7) := Lib.hid (by omega)
      clear h4
      go_wp2
      go_meet
      exact ⟨kk, 2, h4'.out, by omega, Lib.hid ⟨⟨x0, x1⟩, hB9.out, hl2.out, by omega⟩⟩
  case rest =>
  clear x0 x1 z0 z1 hB9 hlr hy wy hy0 hy1
  obtain ⟨kd, x, hkd, hxb, hX⟩ := hcut
  obtain ⟨W3, hW3⟩ : ∃ W, W = wc := ⟨_, rfl⟩
  subst hW3
  have k64 : In64 kd := in64_of (by omega) (by omega)
  have x64 : In64 x := in64_of (by omega) (by omega)
  go_upto_region 7 with (first | (go_at_call 13; ((with_reducible refine (PA.out _).mono ?_); rintro e z1' ⟨rfl, hz1⟩; subst z1')))
  obtain ⟨m1, m2, m3, m4, m5, r1, r2, r3, r4, r5, hmap, hBm⟩ := want_map W3
  obtain ⟨d, hown, hsz, hD⟩ := hmap
  replace hBm := Lib.hid hBm
  go_wp2_with (first
    | (at_range; refine wpList_range_own _ rfl _ 57 rfl 3 3 keyedI Try.underlying57 _ W3.heap.size 5 d rfl hown ?_; intro wq hrg0 hg0 hs0))
  go_frame
  have hr0 : Hid (W3.heap.size ≤ m5.heap.size) := Lib.hid hBm.out.size
  have hq0 : Hid (Below W3.heap.size W3 wq) := Lib.hid (hBm.out.trans ((show Below m5.heap.size m5 wq from ⟨hg0.os, hg0.tape, hg0.output, hg0.size, fun i hi => hg0.block i hi (by simp)⟩).mono hBm.out.size))
  replace hrg0 := Lib.hid hrg0
  clear hown hg0 hs0 hmm r1 r2 r3 r4 r5 hBm
  generalize m5.heap.size = r at *
  go_loopw [11] (fun _ wx => ∃ (left : Lit → Bool) (ct : Nat), Hid (wx.ranges Try.prog 3 (plainElem Try.prog 3) W3.heap.size r 5 d left ct) ∧ Hid (Below W3.heap.size W3 wx)) (fun _ wx => wx.rangeLeft W3.heap.size r)
  case atStart => exact ⟨_, _, hrg0, hq0⟩
  case round =>
    clear hrg0 hq0
    obtain ⟨left, ct, hrg, hB⟩ := hrel
    go_wp2_with (first
      | (at_next; refine wpList_next_ranges_ii _ rfl _ rfl 3 3 .i64 .i64 keyedI Try.underlying3 Try.underlying3 W3.heap.size r 5 _ _ _ rfl hrg.out ?_ ?_))
    · intro _ _
      go_wp2_with fail
      with_reducible refine (known_c K _).mono ?_
      rintro e w6 ⟨rfl, hb6⟩
      go_wp2
      go_ret
      exact ⟨rfl, (hW1.out.trans (hX.out.2.1.mono hW1.out.size)).trans ((hB.out.trans (hb6.mono hB.out.size)).mono (Nat.le_trans hW1.out.size hX.out.2.1.size))⟩
    · intro s v w2 ct2 hws hwv hls hat hrg2 hlt2 hg2 hs2 hen
      have s64 := bounds_i64 hws
      have hM := want_in (mapI_at hD s64 hat)
      have hB2 := Lib.hid (hB.out.grown hg2 hB.out.size (fun k hk => by cases hk; exact hr0.out))
      have hle := hrg.out.left_eq
      have hmet := lits_met (kd := kd) (x := x) (a := a) (nn := U.names.length) (nc := U.classes.length) (nm := U.methods.length) hM (by omega) hX.out.2.2.1 hX.out.2.2.2
      have hsb : 0 ≤ s ∧ s ≤ 255 := by omega
      have hab : 0 ≤ (a : Int) ∧ (a : Int) ≤ 255 := by omega
      have hP := hX.out.1.up hB2.out
      have hUz := (hU.out.up hX.out.2.1).up hB2.out
      have hCz := (hUB.out.up hX.out.2.1).up hB2.out
      have ba := (Below.refl w2.heap.size w2).alloc (Nat.le_refl _) (.cells #[.int .i64 kd, .int .i64 x, .int .i64 kd, .int .i64 x] 41)
      have bb := (Below.refl _ (w2.alloc (.cells #[.int .i64 kd, .int .i64 x, .int .i64 kd, .int .i64 x] 41))).alloc (Nat.le_refl _) (.cells #[.int .u8 s, .int .u8 (a : Int), .int .u8 14, .int .u8 0] 5)
      have PR := Lib.hid (K.right (lits_me w2 kd x s (a : Int) k64 x64 hsb hab) ((hUz.up ba).up bb).k)
      have hCz2 := (hCz.up ba).up bb
      have u0 := hCz2.c0
      have u1 := hCz2.c1
      have u2' := hCz2.c2
      have u3 := hCz2.c3
      have u4' := hCz2.c4
      obtain ⟨x0, x1⟩ := hP
      have es : s % 256 = s := by omega
      have ea : (a : Int) % 256 = (a : Int) := by omega
      have ea2 : a % 256 = a := by omega
      have hP3 := Lib.hid ((Pb.up (Pb.up ⟨x0, x1⟩ ba) bb))
      have hrg3 := Lib.hid (rng_below (rng_below hrg2 ba) bb)
      have hB3 := Lib.hid ((hB2.out.trans (ba.mono hB2.out.size)).trans (bb.mono (Nat.le_trans hB2.out.size ba.size)))
      clear hrg hB hat hls hws hwv hg2 hs2 hUz hCz hCz2 ba bb hrg2 hB2 hM s64 hab hsb
      generalize metR ⟨0, 0, [(kd, x), (kd, x)], [s, (a : Int), 14, 0]⟩ U.names.length U.classes.length U.methods.length = rr at *
      go_wp2_with fail
      with_reducible refine PR.out.mono ?_
      rintro e w7 ⟨rfl, hb7⟩
      have hP4 := hP3.out.up hb7
      have hrg4 := rng_below hrg3.out hb7
      have hB4 := Lib.hid (hB3.out.trans (hb7.mono hB3.out.size))
      obtain ⟨y0, y1⟩ := hP4
      clear hP3 hrg3 hB3 PR hb7 u0 u1 u2' u3 u4' x0 x1
      replace hrg4 := Lib.hid hrg4
      by_cases ha2 : a < 2
      · have d2 : decide ((a : Int) < 2) = true := by simp; omega
        rw [d2, Bool.true_and] at hmet
        by_cases hkv : kd = v
        · have dk : (kd == v) = true := by simpa using hkv
          rw [decide_eq_true hkv] at hmet
          clear hkv
          go_wp2
          go_roundw
          case rel => exact ⟨_, _, hrg4, hB4⟩
          case measure => rw [hrg4.out.left_eq, hle]; exact hlt2
        · have dk : (kd == v) = false := by simpa using hkv
          rw [decide_eq_false hkv] at hmet
          clear hkv
          go_wp2
          go_roundw
          case rel => exact ⟨_, _, hrg4, hB4⟩
          case measure => rw [hrg4.out.left_eq, hle]; exact hlt2
      · have d2 : decide ((a : Int) < 2) = false := by simp; omega
        rw [d2, Bool.false_and] at hmet
        go_wp2
        go_roundw
        case rel => exact ⟨_, _, hrg4, hB4⟩
        case measure => rw [hrg4.out.left_eq, hle]; exact hlt2
end Wd
end Go.Proofs.Ythlijmdohejheaa
