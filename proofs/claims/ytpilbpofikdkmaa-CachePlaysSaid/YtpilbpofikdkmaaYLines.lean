/- CacheLines, over what the laws ask of the package. -/
import Derived.Test.YtpilbpofikdkmaaYRow
namespace Go.Proofs.Ytpilbpofikdkmaa
open Go.RowKit
set_option linter.unusedVariables false
set_option maxRecDepth 20000
namespace Wd
theorem getS_L (S : Cst) (c k : Int) : (getS S c k).L = S.L := by unfold getS; split <;> rfl
theorem get_getB (S : Cst) (c k c' k' : Int) : getB (getS S c k) c' k' = getB S c' k' := by unfold getB; rw [getS_L]
theorem get_getM (S : Cst) (c k c' k' : Int) : getM (getS S c k) c' k' = getM S c' k' := by unfold getM; rw [getS_L]
theorem put_same (S : Cst) (c k x : Int) : getB (putS S c k x) c k = true ∧ getM (putS S c k x) c k = x := by
  unfold getB getM putS updL
  simp only [if_pos]
  exact hasT_y rfl
theorem put_far (S : Cst) {c k x c' k' : Int} (h : lineR c' k' ≠ lineR c k) : getB (putS S c k x) c' k' = getB S c' k' ∧ getM (putS S c k x) c' k' = getM S c' k' := by
  unfold getB getM putS updL
  simp only [if_neg h]
  exact ⟨trivial, trivial⟩
theorem put_kick (S : Cst) {c k x c' k' : Int} (h : lineR c' k' = lineR c k) (hn : ¬ (c = c' ∧ k = k')) : getB (putS S c k x) c' k' = false ∧ getM (putS S c k x) c' k' = -1 := by
  unfold getB getM putS updL
  simp only [if_pos h]
  exact hasT_n (fun y hy => by cases hy; exact hn ⟨rfl, rfl⟩)
theorem line_mod {c k : Int} (hc : 0 ≤ c) (hk : 0 ≤ k) : Int.tmod (31 * c + k) 32 = ((lineR c k : Nat) : Int) := by
  obtain ⟨r, e, a, b, h⟩ := tmod_split (31 * c + k) 32 (by omega)
  have nn := Int.tmod_nonneg 32 (show 0 ≤ 31 * c + k by omega)
  rw [e] at nn ⊢
  unfold lineR
  omega
/-- a cache of the call's own, two keys in blocks of their own -/
structure LnS (CA : CAt) (w0 wr : World) (p : Nat) (S : Cst) (F : Nat → Prop) (g : Nat) (c1 k1 c2 k2 : Int) : Prop where
  pc : PC CA w0 wr p S F
  a0 : wr.cell? ⟨g, 0, none⟩ = some (.int .i64 c1)
  a1 : wr.cell? ⟨g, 1, none⟩ = some (.int .i64 k1)
  b0 : wr.cell? ⟨g + 1, 0, none⟩ = some (.int .i64 c2)
  b1 : wr.cell? ⟨g + 1, 1, none⟩ = some (.int .i64 k2)
  nf : ¬ F g ∧ ¬ F (g + 1)
theorem LnS.step {CA : CAt} {w0 wr w1 : World} {p : Nat} {S S' : Cst} {F F' : Nat → Prop} {g : Nat} {c1 k1 c2 k2 : Int} (h : LnS CA w0 wr p S F g c1 k1 c2 k2) (hm : PC CA w0 w1 p S' F') (c : Ch F wr w1) (hn : Newer F F' wr.heap.size) : LnS CA w0 w1 p S' F' g c1 k1 c2 k2 := by
  have l0 := World.block_lt_of_cell? wr _ h.a0
  have l1 := World.block_lt_of_cell? wr _ h.b0
  refine ⟨hm, ch_cell h.a0 c h.nf.1, ch_cell h.a1 c h.nf.1, ch_cell h.b0 c h.nf.2, ch_cell h.b1 c h.nf.2, fun hF => ?_, fun hF => ?_⟩
  · rcases hn _ hF with e | e
    · exact h.nf.1 e
    · simp only at l0; omega
  · rcases hn _ hF with e | e
    · exact h.nf.2 e
    · simp only at l1; omega
set_option maxHeartbeats 32000000 in
theorem lines_any {CA : CAt} (K : CacK CA) (w : World) (class' sel other n : Int) :
    Calls Try.prog 6 #[.int .i64 class', .int .i64 sel, .int .i64 other, .int .i64 n] w fun e w' => e = .returned (.bool true) ∧ Below w.heap.size w w' := by
  have b1 := i64_and15 class'
  have b2 := i64_and63 sel
  have b3 := i64_and15 other
  have b4 := i64_and63 n
  obtain ⟨c1, hc1⟩ : ∃ c, class' % 16 = c := ⟨_, rfl⟩
  obtain ⟨k1, hk1⟩ : ∃ c, sel % 64 = c := ⟨_, rfl⟩
  obtain ⟨c2, hc2⟩ : ∃ c, other % 16 = c := ⟨_, rfl⟩
  obtain ⟨k2, hk2⟩ : ∃ c, n % 64 = c := ⟨_, rfl⟩
  rw [hc1] at b1
  rw [hk1] at b2
  rw [hc2] at b3
  rw [hk2] at b4
  have c1b : 0 ≤ c1 ∧ c1 < 16 := by omega
  have k1b : 0 ≤ k1 ∧ k1 < 64 := by omega
  have c2b : 0 ≤ c2 ∧ c2 < 16 := by omega
  have k2b : 0 ≤ k2 ∧ k2 < 64 := by omega
  clear hc1 hk1 hc2 hk2
  have l1 := line_mod (c := c1) (k := k1) (by omega) (by omega)
  have l2 := line_mod (c := c2) (k := k2) (by omega) (by omega)
  have w1 : IntKind.i64.wrap (31 * c1) = 31 * c1 := by rw [IntKind.wrap_i64]; omega
  have w2 : IntKind.i64.wrap (31 * c1 + k1) = 31 * c1 + k1 := by rw [IntKind.wrap_i64]; omega
  have w3 : IntKind.i64.wrap (31 * c2) = 31 * c2 := by rw [IntKind.wrap_i64]; omega
  have w4 : IntKind.i64.wrap (31 * c2 + k2) = 31 * c2 + k2 := by rw [IntKind.wrap_i64]; omega
  have ic1 : Hid (I64 c1) := Lib.hid ⟨by omega, by omega⟩
  have ik1 : Hid (I64 k1) := Lib.hid ⟨by omega, by omega⟩
  have ic2 : Hid (I64 c2) := Lib.hid ⟨by omega, by omega⟩
  have ik2 : Hid (I64 k2) := Lib.hid ⟨by omega, by omega⟩
  have i1 : Hid (I64 1) := Lib.hid ⟨by omega, by omega⟩
  have i2 : Hid (I64 2) := Lib.hid ⟨by omega, by omega⟩
  obtain ⟨g1, g2⟩ := put_same S0 c1 k1 1
  obtain ⟨g3, g4⟩ := put_same (getS (putS S0 c1 k1 1) c1 k1) c2 k2 2
  obtain ⟨zb, hzb⟩ : ∃ z, getB (getS (putS (getS (putS S0 c1 k1 1) c1 k1) c2 k2 2) c2 k2) c1 k1 = z := ⟨_, rfl⟩
  obtain ⟨zx, hzx⟩ : ∃ z, getM (getS (putS (getS (putS S0 c1 k1 1) c1 k1) c2 k2 2) c2 k2) c1 k1 = z := ⟨_, rfl⟩
  have hz : ((c1 = c2 ∧ k1 = k2) ∧ zb = true ∧ zx = 2) ∨ (¬ (c1 = c2 ∧ k1 = k2) ∧ lineR c1 k1 ≠ lineR c2 k2 ∧ zb = true ∧ zx = 1) ∨ (¬ (c1 = c2 ∧ k1 = k2) ∧ lineR c1 k1 = lineR c2 k2 ∧ zb = false ∧ zx = -1) := by
    rw [get_getB] at hzb
    rw [get_getM] at hzx
    by_cases he : c1 = c2 ∧ k1 = k2
    · left
      obtain ⟨rfl, rfl⟩ := he
      rw [g3] at hzb
      rw [g4] at hzx
      exact ⟨⟨rfl, rfl⟩, hzb.symm, hzx.symm⟩
    · right
      by_cases hl : lineR c1 k1 = lineR c2 k2
      · right
        obtain ⟨e1, e2⟩ := put_kick (getS (putS S0 c1 k1 1) c1 k1) (x := 2) hl (fun h => he ⟨h.1.symm, h.2.symm⟩)
        rw [e1] at hzb
        rw [e2] at hzx
        exact ⟨he, hl, hzb.symm, hzx.symm⟩
      · left
        obtain ⟨e1, e2⟩ := put_far (getS (putS S0 c1 k1 1) c1 k1) (x := 2) hl
        rw [e1, get_getB, g1] at hzb
        rw [e2, get_getM, g2] at hzx
        exact ⟨he, hl, hzb.symm, hzx.symm⟩
  have hb0 : Hid ((putS S0 c1 k1 1).h + (putS S0 c1 k1 1).m < 1000000) := Lib.hid (by show (0 : Nat) < 1000000; omega)
  have hb1 : Hid ((putS (getS (putS S0 c1 k1 1) c1 k1) c2 k2 2).h + (putS (getS (putS S0 c1 k1 1) c1 k1) c2 k2 2).m < 1000000) := Lib.hid (by
    have := get_sum (putS S0 c1 k1 1) c1 k1
    have h0 : (putS S0 c1 k1 1).h + (putS S0 c1 k1 1).m = 0 := rfl
    show (getS (putS S0 c1 k1 1) c1 k1).h + (getS (putS S0 c1 k1 1) c1 k1).m < 1000000
    omega)
  have hb2 : Hid ((getS (putS (getS (putS S0 c1 k1 1) c1 k1) c2 k2 2) c2 k2).h + (getS (putS (getS (putS S0 c1 k1 1) c1 k1) c2 k2 2) c2 k2).m < 1000000) := Lib.hid (by
    have := get_sum (putS (getS (putS S0 c1 k1 1) c1 k1) c2 k2 2) c2 k2
    have e1 : (putS (getS (putS S0 c1 k1 1) c1 k1) c2 k2 2).h + (putS (getS (putS S0 c1 k1 1) c1 k1) c2 k2 2).m = (getS (putS S0 c1 k1 1) c1 k1).h + (getS (putS S0 c1 k1 1) c1 k1).m := rfl
    have := get_sum (putS S0 c1 k1 1) c1 k1
    have h0 : (putS S0 c1 k1 1).h + (putS S0 c1 k1 1).m = 0 := rfl
    omega)
  replace g1 := Lib.hid g1
  replace g2 := Lib.hid g2
  replace g3 := Lib.hid g3
  replace g4 := Lib.hid g4
  replace hzb := Lib.hid hzb
  replace hzx := Lib.hid hzx
  generalize lineR c1 k1 = la at *
  generalize lineR c2 k2 = lb at *
  obtain ⟨ap, hap⟩ : ∃ ap, ((la : Int) != (lb : Int)) = ap := ⟨_, rfl⟩
  have hz2 : (((c1 == c2) = true ∧ (k1 == k2) = true) ∧ zb = true ∧ zx = 2) ∨ (((c1 == c2) = false ∨ (c1 == c2) = true ∧ (k1 == k2) = false) ∧ zb = ap ∧ (zb = true → zx = 1)) := by
    have hne : ¬ (c1 = c2 ∧ k1 = k2) → ((c1 == c2) = false ∨ (c1 == c2) = true ∧ (k1 == k2) = false) := by
      intro h
      by_cases h1 : c1 = c2
      · right; exact ⟨by simpa using h1, by rw [beq_eq_false_iff_ne]; exact fun h2 => h ⟨h1, h2⟩⟩
      · left; rw [beq_eq_false_iff_ne]; exact h1
    rcases hz with ⟨⟨h1, h2⟩, h3, h4⟩ | ⟨h1, h2, h3, h4⟩ | ⟨h1, h2, h3, h4⟩
    · left; exact ⟨⟨by simpa using h1, by simpa using h2⟩, h3, h4⟩
    · right
      refine ⟨hne h1, ?_, fun _ => h4⟩
      rw [h3, ← hap]; symm; rw [bne_iff_ne]; omega
    · right
      refine ⟨hne h1, ?_, fun h => by rw [h3] at h; cases h⟩
      rw [h3, ← hap, h2]; symm; simp
  replace hz2 := Lib.hid hz2
  clear hz
  go_enter Try.func6, Try.ntmps6
  go_wp2_with fail
  refine (new_s K _).mono ?_
  rintro e x1 ⟨p, F, rfl, h0⟩
  replace h0 := Lib.hid h0
  go_upto_region 7 with fail
  have hS0 : LnS CA w ((x1.alloc (.cells #[.int .i64 c1, .int .i64 k1] 32)).alloc (.cells #[.int .i64 c2, .int .i64 k2] 32)) p S0 F x1.heap.size c1 k1 c2 k2 :=
    ⟨h0.out.keep K (((Below.refl _ _).alloc (Nat.le_refl _) _).alloc (by simp) _), by simp, by simp, by simp, by simp, fun h => by have := K.lt h0.out.da _ h; omega, fun h => by have := K.lt h0.out.da _ h; omega⟩
  have hS := Lib.hid hS0
  clear h0 hS0 l1 l2 w1 w2 w3 w4 b1 b2 b3 b4 hap
  generalize (x1.alloc (.cells #[.int .i64 c1, .int .i64 k1] 32)).alloc (.cells #[.int .i64 c2, .int .i64 k2] 32) = W at *
  generalize x1.heap.size = g at *
  have a0 := hS.out.a0
  have a1 := hS.out.a1
  have b0 := hS.out.b0
  have b1 := hS.out.b1
  go_wp2_with fail
  refine (put_s K hS.out.pc ic1.out ik1.out i1.out (S' := putS S0 c1 k1 1) rfl).mono ?_
  rintro e y1 ⟨F1, rfl, h0, hc, hn⟩
  replace hS := Lib.hid (hS.out.step h0 hc hn)
  clear h0 hc hn a0 a1 b0 b1
  have a0 := hS.out.a0
  have a1 := hS.out.a1
  have b0 := hS.out.b0
  have b1 := hS.out.b1
  go_wp2_with fail
  refine (get_s K hS.out.pc ic1.out ik1.out hb0.out g2.out g1.out (S' := getS (putS S0 c1 k1 1) c1 k1) rfl).mono ?_
  rintro e y2 ⟨F2, rfl, h0, hc, hn⟩
  replace hS := Lib.hid (hS.out.step h0 hc hn)
  clear h0 hc hn a0 a1 b0 b1
  have a0 := hS.out.a0
  have a1 := hS.out.a1
  have b0 := hS.out.b0
  have b1 := hS.out.b1
  go_wp2_with fail
  refine (put_s K hS.out.pc ic2.out ik2.out i2.out (S' := putS (getS (putS S0 c1 k1 1) c1 k1) c2 k2 2) rfl).mono ?_
  rintro e y3 ⟨F3, rfl, h0, hc, hn⟩
  replace hS := Lib.hid (hS.out.step h0 hc hn)
  clear h0 hc hn a0 a1 b0 b1
  have a0 := hS.out.a0
  have a1 := hS.out.a1
  have b0 := hS.out.b0
  have b1 := hS.out.b1
  go_wp2_with fail
  refine (get_s K hS.out.pc ic2.out ik2.out hb1.out g4.out g3.out (S' := getS (putS (getS (putS S0 c1 k1 1) c1 k1) c2 k2 2) c2 k2) rfl).mono ?_
  rintro e y4 ⟨F4, rfl, h0, hc, hn⟩
  replace hS := Lib.hid (hS.out.step h0 hc hn)
  clear h0 hc hn a0 a1 b0 b1
  have a0 := hS.out.a0
  have a1 := hS.out.a1
  have b0 := hS.out.b0
  have b1 := hS.out.b1
  go_wp2_with fail
  refine (get_s K hS.out.pc ic1.out ik1.out hb2.out hzx.out hzb.out rfl).mono ?_
  rintro e y5 ⟨F5, rfl, h0, hc, hn⟩
  replace hS := Lib.hid (hS.out.step h0 hc hn)
  clear h0 hc hn a0 a1 b0 b1 g1 g2 g3 g4 hzb hzx hb0 hb1 hb2
  have a0 := hS.out.a0
  have a1 := hS.out.a1
  have b0 := hS.out.b0
  have b1 := hS.out.b1
  rcases hz2.out with ⟨⟨e1, e2⟩, e3, e4⟩ | ⟨e1 | ⟨e1, e2⟩, e3, e4⟩
  · subst e3; subst e4
    clear hz2
    go_wp2_with fail
    refine (known_c K _).mono ?_
    rintro e z ⟨rfl, hb⟩
    have hB := Lib.hid (hS.out.pc.bel.trans (hb.mono hS.out.pc.bel.size))
    clear hb
    go_wp2
    go_ret
    exact ⟨rfl, hB.out⟩
  · subst e3
    clear hz2
    cases zb with
    | true =>
      have e5 := e4 rfl
      subst e5
      clear e4
      go_wp2_with fail
      refine (known_c K _).mono ?_
      rintro e z ⟨rfl, hb⟩
      have hB := Lib.hid (hS.out.pc.bel.trans (hb.mono hS.out.pc.bel.size))
      clear hb
      go_wp2
      go_ret
      exact ⟨rfl, hB.out⟩
    | false =>
      clear e4
      go_wp2_with fail
      refine (known_c K _).mono ?_
      rintro e z ⟨rfl, hb⟩
      have hB := Lib.hid (hS.out.pc.bel.trans (hb.mono hS.out.pc.bel.size))
      clear hb
      go_wp2
      go_ret
      exact ⟨rfl, hB.out⟩
  · subst e3
    clear hz2
    cases zb with
    | true =>
      have e5 := e4 rfl
      subst e5
      clear e4
      go_wp2_with fail
      refine (known_c K _).mono ?_
      rintro e z ⟨rfl, hb⟩
      have hB := Lib.hid (hS.out.pc.bel.trans (hb.mono hS.out.pc.bel.size))
      clear hb
      go_wp2
      go_ret
      exact ⟨rfl, hB.out⟩
    | false =>
      clear e4
      go_wp2_with fail
      refine (known_c K _).mono ?_
      rintro e z ⟨rfl, hb⟩
      have hB := Lib.hid (hS.out.pc.bel.trans (hb.mono hS.out.pc.bel.size))
      clear hb
      go_wp2
      go_ret
      exact ⟨rfl, hB.out⟩
end Wd
end Go.Proofs.Ytpilbpofikdkmaa
