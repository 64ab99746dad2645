/- The landed instructions: is a method right? -/
import Derived.Test.YthlijmdohejheaaCC
import Derived.Test.YthlijmdohejheaaCE
namespace Go.Proofs.Ythlijmdohejheaa
open Go.RowKit
set_option linter.unusedVariables false
set_option maxRecDepth 20000
namespace Wd
/-- a method in its box, ahead of what is asked -/
structure MeS (w0 wr : World) (q : Nat) (v : Value) (m : MethA) (la ca : Option Addr) (lc cc : Nat) : Prop where
  b : MeB wr q v m la ca lc cc
  bel : Below w0.heap.size w0 wr
theorem MeS.up {w0 w w1 : World} {q : Nat} {v : Value} {m : MethA} {la ca : Option Addr} {lc cc : Nat} (h : MeS w0 w q v m la ca lc cc) (b : Below w.heap.size w w1) : MeS w0 w1 q v m la ca lc cc :=
  ⟨h.b.up b, h.bel.trans (b.mono h.bel.size)⟩
set_option maxHeartbeats 16000000 in
theorem krightCode_c {w : World} {v : Value} {m : MethA} (h : MeV w v m) (h128 : m.code.length ≤ 128) (hev : m.code.length % 2 = 0) (ha : 0 ≤ m.args ∧ m.args ≤ 8) (ht : 0 ≤ m.temps ∧ m.temps ≤ 8) :
    Calls Try.prog 30 #[v] w fun e w' => e = .returned (.bool (insF m (m.code.length / 2) 0)) ∧ Below w.heap.size w w' := by
  obtain ⟨la, lc, ca, cc, rfl, hl, hc⟩ := h.ex
  have S0 : Hid (MeS w (w.alloc (.cells #[.int .i64 m.args, .int .i64 m.temps, .slice la m.lits.length lc, .slice ca m.code.length cc] 37)) w.heap.size _ m la ca lc cc) := Lib.hid ⟨MeB.born h, (Below.refl w.heap.size w).alloc (Nat.le_refl _) _⟩
  have hle := len_le hc.le
  obtain ⟨N, hN⟩ : ∃ N, N = m.code.length / 2 := ⟨_, rfl⟩
  have hN2 : m.code.length = 2 * N := by omega
  have hst2 : Hid (insF m (m.code.length / 2) 0 = insF m (N - 0) (2 * 0)) := Lib.hid (by rw [hN]; rfl)
  replace hN2 := Lib.hid hN2
  replace h128 := Lib.hid h128
  clear hN hev hl hc h
  go_enter Try.func30, Try.ntmps30
  go_upto_region 1 with fail
  generalize w.alloc (.cells #[.int .i64 m.args, .int .i64 m.temps, .slice la m.lits.length lc, .slice ca m.code.length cc] 37) = W at *
  go_wp2
  go_loopw [3] (fun i3 wr => ∃ t : Nat, t ≤ N ∧ i3 = .int .i64 ((2 * t : Nat) : Int) ∧ Hid (insF m (m.code.length / 2) 0 = insF m (N - t) (2 * t)) ∧ Hid (MeS w wr w.heap.size (.agg #[.int .i64 m.args, .int .i64 m.temps, .slice la m.lits.length lc, .slice ca m.code.length cc]) m la ca lc cc)) (fun i3 _ => 2 * N - (intOf i3).toNat)
  case atStart => exact ⟨0, by omega, rfl, hst2, S0⟩
  case round =>
    clear hst2 S0
    obtain ⟨t, ht2, rfl, hI, S⟩ := hrel
    have q0 := S.out.b.c0
    have q1 := S.out.b.c1
    have q2 := S.out.b.c2
    have q3 := S.out.b.c3
    by_cases hlt2 : t < N
    · have d2' : decide (((2 * t : Nat) : Int) < (m.code.length : Int)) = true := by have := hN2.out; simp; omega
      have d3' : ((2 * t : Nat) : Int) < (m.code.length : Int) := by have := hN2.out; omega
      have wt : IntKind.i64.wrap (((2 * t : Nat) : Int) + 2) = ((2 * (t + 1) : Nat) : Int) := by have := h128.out; have := hN2.out; rw [IntKind.wrap_i64]; omega
      have PI := Lib.hid (krightAt_c S.out.b.me (2 * t) h128.out (by have := hN2.out; omega) (by omega) ha ht)
      have hnx := ins_next (m := m) hlt2
      cases hb : insR m ((2 * t : Nat) : Int) (byAt m.code (2 * t)) (byAt m.code (2 * t + 1)) with
      | true =>
        rw [hb, Bool.true_and] at hnx
        rw [hb] at PI
        have hI' := Lib.hid (hI.out.trans hnx)
        clear hnx hb hI
        generalize hTT : ((2 * t : Nat) : Int) = tt at *
        go_wp2_with fail
        with_reducible refine PI.out.mono ?_
        rintro e1 w2 ⟨rfl, hb2⟩
        go_wp2
        go_roundw
        case rel => exact ⟨t + 1, by omega, rfl, hI', Lib.hid (S.out.up hb2)⟩
        case measure => subst hTT; simp [intOf]; have := hN2.out; omega
      | false =>
        rw [hb, Bool.false_and] at hnx
        rw [hb] at PI
        have eT := Lib.hid (hI.out.trans hnx)
        clear hnx hb hI
        generalize hTT : ((2 * t : Nat) : Int) = tt at *
        go_wp2_with fail
        with_reducible refine PI.out.mono ?_
        rintro e1 w2 ⟨rfl, hb2⟩
        go_wp2
        go_ret
        exact ⟨by rw [eT.out]; rfl, (S.out.up hb2).bel⟩
    · have d2' : decide (((2 * t : Nat) : Int) < (m.code.length : Int)) = false := by have := hN2.out; simp; omega
      have d3' : ¬ ((2 * t : Nat) : Int) < (m.code.length : Int) := by have := hN2.out; omega
      have hI' := hI.out
      rw [show N - t = 0 by omega, insF] at hI'
      replace hI' := Lib.hid hI'
      clear hI
      generalize hTT : ((2 * t : Nat) : Int) = tt at *
      go_wp2
      go_ret
      exact ⟨by rw [hI'.out]; rfl, S.out.bel⟩
theorem sl_no {m : MethA} (h : slR m = false) : m.args < 0 ∨ m.temps < 0 ∨ m.args > 8 ∨ m.temps > 8 - m.args := by
  unfold slR at h
  simp only [Bool.and_eq_false_iff, decide_eq_false_iff_not] at h
  omega
theorem sl_yes {m : MethA} (h : slR m = true) : 0 ≤ m.args ∧ 0 ≤ m.temps ∧ m.temps ≤ 8 - m.args := by
  unfold slR at h
  simp only [Bool.and_eq_true, decide_eq_true_eq] at h
  omega
theorem end_no {C : List Int} (h : endR C = false) : (C.length < 2 ∨ C.length % 2 ≠ 0) ∨ ¬ (C.length < 2 ∨ C.length % 2 ≠ 0) ∧ (byAt C (C.length - 2) ≠ 14 ∧ byAt C (C.length - 2) ≠ 19 ∧ byAt C (C.length - 2) ≠ 16) := by
  unfold endR at h
  split at h
  · next g => exact Or.inl g
  · next g =>
    unfold endB at h
    simp only [Bool.or_eq_false_iff, decide_eq_false_iff_not] at h
    exact Or.inr ⟨g, h.1.1, h.1.2, h.2⟩
theorem end_yes {C : List Int} (h : endR C = true) : ¬ (C.length < 2 ∨ C.length % 2 ≠ 0) ∧ ¬ (byAt C (C.length - 2) ≠ 14 ∧ byAt C (C.length - 2) ≠ 19 ∧ byAt C (C.length - 2) ≠ 16) := by
  unfold endR at h
  split at h
  · cases h
  · next g =>
    unfold endB at h
    simp only [Bool.or_eq_true, decide_eq_true_eq] at h
    exact ⟨g, by omega⟩
set_option maxHeartbeats 32000000 in
theorem kright_c {w : World} {v u : Value} {m : MethA} {U : UnitA} (h : MeV w v m) (hu : UnK w u U) :
    Calls Try.prog 18 #[v, u] w fun e w' => e = .returned (.int .i64 (metR m U.names.length U.classes.length U.methods.length)) ∧ Below w.heap.size w w' := by
  obtain ⟨la, lc, ca, cc, rfl, hl, hc⟩ := h.ex
  obtain ⟨na, nc, ka, kc, ma, mc, oa, oc, rfl, _⟩ := hu.ex
  have hw1 := (Below.refl w.heap.size w).alloc (Nat.le_refl _) (.cells #[.int .i64 m.args, .int .i64 m.temps, .slice la m.lits.length lc, .slice ca m.code.length cc] 37)
  have S0 : Hid (MSt w ((w.alloc (.cells #[.int .i64 m.args, .int .i64 m.temps, .slice la m.lits.length lc, .slice ca m.code.length cc] 37)).alloc (.cells #[.slice na U.names.length nc, .slice ka U.classes.length kc, .slice ma U.methods.length mc, .slice oa U.objects.length oc, .int .i64 U.main] 27)) w.heap.size (w.alloc (.cells #[.int .i64 m.args, .int .i64 m.temps, .slice la m.lits.length lc, .slice ca m.code.length cc] 37)).heap.size _ _ m U la ca na ka ma oa lc cc nc kc mc oc) := Lib.hid ⟨(MeB.born h).up ((Below.refl _ _).alloc (Nat.le_refl _) _), UnB.born (hu.up hw1), hw1.trans (((Below.refl _ _).alloc (Nat.le_refl _) _).mono hw1.size)⟩
  have hle := len_le hc.le
  have hle2 := len_le hl.le
  have i1 : (w.alloc (.cells #[.int .i64 m.args, .int .i64 m.temps, .slice la m.lits.length lc, .slice ca m.code.length cc] 37)).heap.size = w.heap.size + 1 := by simp
  rw [i1] at S0
  clear hl hc h hu hw1 i1
  have a0 := S0.out.b.c0
  have a1 := S0.out.b.c1
  have a2 := S0.out.b.c2
  have a3 := S0.out.b.c3
  obtain ⟨n, hn⟩ : ∃ n, n = m.code.length := ⟨_, rfl⟩
  obtain ⟨nl, hnl⟩ : ∃ n, n = m.lits.length := ⟨_, rfl⟩
  go_enter Try.func18, Try.ntmps18
  go_upto_region 1 with fail
  generalize (w.alloc (.cells #[.int .i64 m.args, .int .i64 m.temps, .slice la m.lits.length lc, .slice ca m.code.length cc] 37)).alloc (.cells #[.slice na U.names.length nc, .slice ka U.classes.length kc, .slice ma U.methods.length mc, .slice oa U.objects.length oc, .int .i64 U.main] 27) = W at *
  by_cases g1 : m.code.length > 128
  · have dg1 : decide ((m.code.length : Int) > 128) = true := by simp; omega
    have e := Lib.hid (met_long (m := m) (nn := U.names.length) (nc := U.classes.length) (nm := U.methods.length) (Or.inl g1))
    go_wp2
    go_ret
    exact ⟨by rw [e.out]; rfl, S0.out.bel⟩
  have dg1 : decide ((m.code.length : Int) > 128) = false := by simp; omega
  by_cases g2 : m.lits.length > 16
  · have dg2 : decide ((m.lits.length : Int) > 16) = true := by simp; omega
    have e := Lib.hid (met_long (m := m) (nn := U.names.length) (nc := U.classes.length) (nm := U.methods.length) (Or.inr (Or.inl g2)))
    go_wp2
    go_ret
    exact ⟨by rw [e.out]; rfl, S0.out.bel⟩
  have dg2 : decide ((m.lits.length : Int) > 16) = false := by simp; omega
  have PS := kslots_c S0.out.b.me
  cases hsl : slR m with
  | false =>
    have e := Lib.hid (met_long (m := m) (nn := U.names.length) (nc := U.classes.length) (nm := U.methods.length) (Or.inr (Or.inr (sl_no hsl))))
    rw [hsl] at PS
    replace PS := Lib.hid PS
    clear hsl
    go_wp2_with fail
    with_reducible refine PS.out.mono ?_
    rintro e1 w1 ⟨rfl, hb⟩
    go_wp2
    go_ret
    exact ⟨by rw [e.out]; rfl, (S0.out.up hb).bel⟩
  | true =>
    have hys := sl_yes hsl
    have G : ¬ (m.code.length > 128 ∨ m.lits.length > 16 ∨ m.args < 0 ∨ m.temps < 0 ∨ m.args > 8 ∨ m.temps > 8 - m.args) := by omega
    have ha : 0 ≤ m.args ∧ m.args ≤ 8 := by omega
    have ht : 0 ≤ m.temps ∧ m.temps ≤ 8 := by omega
    have h128 : m.code.length ≤ 128 := by omega
    rw [hsl] at PS
    replace PS := Lib.hid PS
    clear hsl hys
    go_wp2_with fail
    with_reducible refine PS.out.mono ?_
    rintro e1 w1 ⟨rfl, hb⟩
    replace S0 := Lib.hid (S0.out.up hb)
    clear hb PS a0 a1 a2 a3
    have a0 := S0.out.b.c0
    have a1 := S0.out.b.c1
    have a2 := S0.out.b.c2
    have a3 := S0.out.b.c3
    have u0 := S0.out.u.c0
    have u1' := S0.out.u.c1
    have u2' := S0.out.u.c2
    have u3' := S0.out.u.c3
    have u4' := S0.out.u.c4
    go_upto_region 3 with fail
    clear dg1 dg2 g1 g2
    have PE := kend_c S0.out.b.py.2
    cases hen : endR m.code with
    | false =>
      have e : Hid (metR m U.names.length U.classes.length U.methods.length = 12) := Lib.hid (by
        rcases end_no hen with g | ⟨g, g'⟩
        · exact met_len G g
        · exact met_last G g g')
      rw [hen] at PE
      replace PE := Lib.hid PE
      clear hen G
      go_wp2_with fail
      with_reducible refine PE.out.mono ?_
      rintro e2 w2 ⟨rfl, hw2⟩
      subst w2
      go_wp2
      go_ret
      exact ⟨by rw [e.out]; rfl, S0.out.bel⟩
    | true =>
      obtain ⟨H2, H3⟩ := end_yes hen
      have e := Lib.hid (met_t (nn := U.names.length) (nc := U.classes.length) (nm := U.methods.length) G H2 H3)
      have hev : m.code.length % 2 = 0 := by omega
      rw [hen] at PE
      replace PE := Lib.hid PE
      clear hen G H2 H3
      go_wp2_with fail
      with_reducible refine PE.out.mono ?_
      rintro e2 w2 ⟨rfl, hw2⟩
      subst w2
      have PL := klits_c S0.out.b.py.1 S0.out.u.un
      cases hli : m.lits.all (fun x => litR x U.names.length U.classes.length U.methods.length) with
      | false =>
        have eT := Lib.hid (metT_lit (m := m) hli)
        rw [hli] at PL
        replace PL := Lib.hid PL
        clear hli
        go_wp2_with fail
        with_reducible refine PL.out.mono ?_
        rintro e3 w3 ⟨rfl, hb⟩
        go_wp2
        go_ret
        exact ⟨by rw [e.out, eT.out]; rfl, (S0.out.up hb).bel⟩
      | true =>
        rw [hli] at PL
        replace PL := Lib.hid PL
        replace hli := Lib.hid hli
        go_wp2_with fail
        with_reducible refine PL.out.mono ?_
        rintro e3 w3 ⟨rfl, hb⟩
        replace S0 := Lib.hid (S0.out.up hb)
        clear hb PL a0 a1 a2 a3 PE u0 u1' u2' u3' u4'
        have a0 := S0.out.b.c0
        have a1 := S0.out.b.c1
        have a2 := S0.out.b.c2
        have a3 := S0.out.b.c3
        have PC := krightCode_c S0.out.b.me h128 hev ha ht
        cases hin : insF m (m.code.length / 2) 0 with
        | false =>
          have eT := Lib.hid (metT_ins (m := m) hli.out hin)
          rw [hin] at PC
          replace PC := Lib.hid PC
          clear hin
          go_wp2_with fail
          with_reducible refine PC.out.mono ?_
          rintro e4 w4 ⟨rfl, hb⟩
          go_wp2
          go_ret
          exact ⟨by rw [e.out, eT.out]; rfl, (S0.out.up hb).bel⟩
        | true =>
          have eT := Lib.hid (metT_ok (m := m) hli.out hin)
          rw [hin] at PC
          replace PC := Lib.hid PC
          clear hin
          go_wp2_with fail
          with_reducible refine PC.out.mono ?_
          rintro e4 w4 ⟨rfl, hb⟩
          go_wp2
          go_ret
          exact ⟨by rw [e.out, eT.out]; rfl, (S0.out.up hb).bel⟩
end Wd
end Go.Proofs.Ythlijmdohejheaa
