/- The document's own instructions: is one right where it stands? -/
import Derived.Test.YthlijmdohejheaaOLit
namespace Go.Proofs.Ythlijmdohejheaa
open Go.RowKit
set_option linter.unusedVariables false
set_option maxRecDepth 20000
namespace Wd
theorem ins_other {m : MethA} {pc op arg : Int} (h : op ≠ 0 ∧ op ≠ 10 ∧ op ≠ 1 ∧ op ≠ 11 ∧ op ≠ 2 ∧ op ≠ 12 ∧ op ≠ 13 ∧ op ≠ 20 ∧ op ≠ 18 ∧ op ≠ 15 ∧ op ≠ 17 ∧ op ≠ 16 ∧ op ≠ 21) : insR m pc op arg = decide (op ≤ 21) := by
  unfold insR
  rw [if_neg (by omega), if_neg (by omega), if_neg (by omega), if_neg (by omega), if_neg (by omega), if_neg (by omega), if_neg (by omega), if_neg (by omega), if_neg (by omega)]
set_option maxHeartbeats 16000000 in
theorem rinst_c {w : World} {v : Value} {m : MethA} (h : MeV w v m) (pc : Nat) (h128 : m.code.length ≤ 128) (hp : pc + 2 ≤ m.code.length) (he : pc % 2 = 0) (ha : 0 ≤ m.args ∧ m.args ≤ 8) (ht : 0 ≤ m.temps ∧ m.temps ≤ 8) :
    Calls Try.prog 35 #[v, .int .i64 (pc : Int)] w fun e w' => e = .returned (.bool (insR m (pc : Int) (byAt m.code pc) (byAt m.code (pc + 1)))) ∧ Below w.heap.size w w' := by
  obtain ⟨la, lc, ca, cc, rfl, hl, hc⟩ := h.ex
  obtain ⟨b0, _⟩ := hc.at (byAt_some (C := m.code) (k := pc) (by omega))
  obtain ⟨b1, _⟩ := hc.at (byAt_some (C := m.code) (k := pc + 1) (by omega))
  have hf := fet_yes (C := m.code) (pc := (pc : Int)) (by omega) (by omega) (by omega)
  rw [Int.toNat_natCast] at hf
  generalize byAt m.code pc = op at *
  generalize byAt m.code (pc + 1) = arg at *
  have wa : IntKind.i64.wrap (m.args + m.temps) = m.args + m.temps := by rw [IntKind.wrap_i64]; omega
  have wp : IntKind.i64.wrap ((pc : Int) + 2) = (pc : Int) + 2 := by rw [IntKind.wrap_i64]; omega
  have w2 : IntKind.i64.wrap (2 * arg) = 2 * arg := by rw [IntKind.wrap_i64]; omega
  have w3 : IntKind.i64.wrap ((pc : Int) + 2 + 2 * arg) = (pc : Int) + 2 + 2 * arg := by rw [IntKind.wrap_i64]; omega
  have w4 : IntKind.i64.wrap ((pc : Int) - 2 * arg) = (pc : Int) - 2 * arg := by rw [IntKind.wrap_i64]; omega
  have hB := Lib.hid (MeB.born h)
  have hW := Lib.hid ((Below.refl w.heap.size w).alloc (Nat.le_refl _) (.cells #[.int .i64 m.args, .int .i64 m.temps, .slice la m.lits.length lc, .slice ca m.code.length cc] 37))
  have PF := Lib.hid (rfetch_c hB.out.me (pc : Int) ⟨by omega, by omega⟩)
  rw [hf] at PF
  clear hf hl hc h
  have a0 := hB.out.c0
  have a1 := hB.out.c1
  have a2 := hB.out.c2
  have a3 := hB.out.c3
  go_enter Try.func35, Try.ntmps35
  go_upto_region 1 with fail
  generalize w.alloc (.cells #[.int .i64 m.args, .int .i64 m.temps, .slice la m.lits.length lc, .slice ca m.code.length cc] 37) = W at *
  go_upto_region 2 with (first | (go_at_call 23; ((with_reducible refine PF.out.mono ?_); rintro e1 w1 ⟨rfl, hb⟩)))
  replace hW := Lib.hid (hW.out.trans (hb.mono hW.out.size))
  replace hB := Lib.hid (hB.out.up hb)
  clear hb PF a0 a1 a2 a3
  have a0 := hB.out.c0
  have a1 := hB.out.c1
  have a2 := hB.out.c2
  have a3 := hB.out.c3
  by_cases hop : op = 0 ∨ op = 10 ∨ op = 1 ∨ op = 11 ∨ op = 2 ∨ op = 12 ∨ op = 13 ∨ op = 20 ∨ op = 18 ∨ op = 15 ∨ op = 17 ∨ op = 16 ∨ op = 21
  · rcases hop with rfl | rfl | rfl | rfl | rfl | rfl | rfl | rfl | rfl | rfl | rfl | rfl | rfl
    · have e : Hid (insR m (pc : Int) 0 arg = decide (arg < m.args + m.temps)) := Lib.hid rfl
      go_wp2
      go_ret
      exact ⟨by rw [e.out]; rfl, hW.out⟩
    · have e : Hid (insR m (pc : Int) 10 arg = decide (arg < m.args + m.temps)) := Lib.hid rfl
      go_wp2
      go_ret
      exact ⟨by rw [e.out]; rfl, hW.out⟩
    · have e : Hid (insR m (pc : Int) 1 arg = decide (arg < 62)) := Lib.hid rfl
      go_wp2
      go_ret
      exact ⟨by rw [e.out]; rfl, hW.out⟩
    · have e : Hid (insR m (pc : Int) 11 arg = decide (arg < 62)) := Lib.hid rfl
      go_wp2
      go_ret
      exact ⟨by rw [e.out]; rfl, hW.out⟩
    · have e : Hid (insR m (pc : Int) 2 arg = hasLit m.lits arg 3) := Lib.hid rfl
      go_wp2_with fail
      refine (rlit_c hB.out.me arg 3 b1.1 b1.2).mono ?_
      rintro e2 w2' ⟨rfl, hb⟩
      replace hW := Lib.hid (hW.out.trans (hb.mono hW.out.size))
      go_wp2
      go_ret
      exact ⟨by rw [e.out]; rfl, hW.out⟩
    · have e : Hid (insR m (pc : Int) 12 arg = hasLit m.lits arg 5) := Lib.hid rfl
      go_wp2_with fail
      refine (rlit_c hB.out.me arg 5 b1.1 b1.2).mono ?_
      rintro e2 w2' ⟨rfl, hb⟩
      replace hW := Lib.hid (hW.out.trans (hb.mono hW.out.size))
      go_wp2
      go_ret
      exact ⟨by rw [e.out]; rfl, hW.out⟩
    · have e : Hid (insR m (pc : Int) 13 arg = hasLit m.lits arg 5) := Lib.hid rfl
      go_wp2_with fail
      refine (rlit_c hB.out.me arg 5 b1.1 b1.2).mono ?_
      rintro e2 w2' ⟨rfl, hb⟩
      replace hW := Lib.hid (hW.out.trans (hb.mono hW.out.size))
      go_wp2
      go_ret
      exact ⟨by rw [e.out]; rfl, hW.out⟩
    · have e : Hid (insR m (pc : Int) 20 arg = (hasLit m.lits arg 6 && decide ((litAt m.lits arg).2 > 1))) := Lib.hid rfl
      obtain ⟨k, rfl⟩ : ∃ k : Nat, arg = k := ⟨arg.toNat, by omega⟩
      go_wp2_with fail
      refine (rlit_c hB.out.me (k : Int) 6 b1.1 b1.2).mono ?_
      rintro e2 w2' ⟨rfl, hb⟩
      replace hW := Lib.hid (hW.out.trans (hb.mono hW.out.size))
      replace hB := Lib.hid (hB.out.up hb)
      clear hb a0 a1 a2 a3
      have a2 := hB.out.c2
      cases hh : hasLit m.lits (k : Int) 6 with
      | true =>
        have hk : k < m.lits.length := by
          unfold hasLit at hh
          simp only [Bool.and_eq_true, decide_eq_true_eq] at hh
          omega
        have k0 : (0 : Int) ≤ (k : Int) := by omega
        have k1 : (k : Int) < (m.lits.length : Int) := by omega
        obtain ⟨_, _, g, off, rfl, c0, c1⟩ := hB.out.py.1.at (litAt_some hk)
        rw [hh] at e
        clear hh
        generalize (litAt m.lits (k : Int)).2 = x at *
        go_wp2
        go_ret
        exact ⟨by rw [e.out]; rfl, hW.out⟩
      | false =>
        rw [hh] at e
        clear hh
        go_wp2
        go_ret
        exact ⟨by rw [e.out]; rfl, hW.out⟩
    · have e : Hid (insR m (pc : Int) 18 arg = hasLit m.lits arg 7) := Lib.hid rfl
      go_wp2_with fail
      refine (rlit_c hB.out.me arg 7 b1.1 b1.2).mono ?_
      rintro e2 w2' ⟨rfl, hb⟩
      replace hW := Lib.hid (hW.out.trans (hb.mono hW.out.size))
      go_wp2
      go_ret
      exact ⟨by rw [e.out]; rfl, hW.out⟩
    · have e : Hid (insR m (pc : Int) 15 arg = decide ((pc : Int) + 2 + 2 * arg < (m.code.length : Int))) := Lib.hid rfl
      go_wp2
      go_ret
      exact ⟨by rw [e.out]; rfl, hW.out⟩
    · have e : Hid (insR m (pc : Int) 17 arg = decide ((pc : Int) + 2 + 2 * arg < (m.code.length : Int))) := Lib.hid rfl
      go_wp2
      go_ret
      exact ⟨by rw [e.out]; rfl, hW.out⟩
    · have e : Hid (insR m (pc : Int) 16 arg = decide (2 * arg ≤ (pc : Int))) := Lib.hid rfl
      go_wp2
      go_ret
      exact ⟨by rw [e.out]; rfl, hW.out⟩
    · have e : Hid (insR m (pc : Int) 21 arg = decide (arg ≤ 23)) := Lib.hid rfl
      go_wp2
      go_ret
      exact ⟨by rw [e.out]; rfl, hW.out⟩
  · have e := Lib.hid (ins_other (m := m) (pc := (pc : Int)) (op := op) (arg := arg) (by omega))
    have f0 : (op == 0) = false := by simp; omega
    have f10 : (op == 10) = false := by simp; omega
    have f1 : (op == 1) = false := by simp; omega
    have f11 : (op == 11) = false := by simp; omega
    have f2 : (op == 2) = false := by simp; omega
    have f12 : (op == 12) = false := by simp; omega
    have f13 : (op == 13) = false := by simp; omega
    have f20 : (op == 20) = false := by simp; omega
    have f18 : (op == 18) = false := by simp; omega
    have f15 : (op == 15) = false := by simp; omega
    have f17 : (op == 17) = false := by simp; omega
    have f16 : (op == 16) = false := by simp; omega
    have f21 : (op == 21) = false := by simp; omega
    clear hop
    go_wp2
    go_ret
    exact ⟨by rw [e.out]; rfl, hW.out⟩
end Wd
end Go.Proofs.Ythlijmdohejheaa
