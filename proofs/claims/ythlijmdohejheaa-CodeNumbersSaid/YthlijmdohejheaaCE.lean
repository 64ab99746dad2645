/- The landed instructions: is one right where it stands? -/
import Derived.Test.YthlijmdohejheaaCA
import Derived.Test.YthlijmdohejheaaCB
namespace Go.Proofs.Ythlijmdohejheaa
open Go.RowKit
set_option linter.unusedVariables false
set_option maxRecDepth 20000
namespace Wd
theorem tak_ne {a : Int} (h0 : 0 ≤ a) (h1 : a ≤ 255) : (takR a != -1) = decide (a ≤ 23) := by
  by_cases h : a ≤ 23
  · rcases (show a = 0 ∨ a = 1 ∨ a = 2 ∨ a = 3 ∨ a = 4 ∨ a = 5 ∨ a = 6 ∨ a = 7 ∨ a = 8 ∨ a = 9 ∨ a = 10 ∨ a = 11 ∨ a = 12 ∨ a = 13 ∨ a = 14 ∨ a = 15 ∨ a = 16 ∨ a = 17 ∨ a = 18 ∨ a = 19 ∨ a = 20 ∨ a = 21 ∨ a = 22 ∨ a = 23 by omega) with rfl | rfl | rfl | rfl | rfl | rfl | rfl | rfl | rfl | rfl | rfl | rfl | rfl | rfl | rfl | rfl | rfl | rfl | rfl | rfl | rfl | rfl | rfl | rfl <;> decide +kernel
  · rw [decide_eq_false h, show takR a = -1 from if_pos (Or.inr (by omega))]; rfl
/-- a method, an instruction, each in its box -/
structure InS (w0 wr : World) (q q2 : Nat) (v : Value) (m : MethA) (la ca : Option Addr) (lc cc : Nat) (op arg : Int) : Prop where
  b : MeB wr q v m la ca lc cc
  x0 : wr.cell? ⟨q2, 0, none⟩ = some (.int .i64 op)
  x1 : wr.cell? ⟨q2, 1, none⟩ = some (.int .i64 arg)
  bel : Below w0.heap.size w0 wr
theorem InS.up {w0 w w1 : World} {q q2 : Nat} {v : Value} {m : MethA} {la ca : Option Addr} {lc cc : Nat} {op arg : Int} (h : InS w0 w q q2 v m la ca lc cc op arg) (b : Below w.heap.size w w1) : InS w0 w1 q q2 v m la ca lc cc op arg :=
  ⟨h.b.up b, cell_up b h.x0, cell_up b h.x1, h.bel.trans (b.mono h.bel.size)⟩
set_option maxHeartbeats 16000000 in
theorem krightAt_c {w : World} {v : Value} {m : MethA} (h : MeV w v m) (pc : Nat) (h128 : m.code.length ≤ 128) (hp : pc + 2 ≤ m.code.length) (he : pc % 2 = 0) (ha : 0 ≤ m.args ∧ m.args ≤ 8) (ht : 0 ≤ m.temps ∧ m.temps ≤ 8) :
    Calls Try.prog 37 #[v, .int .i64 (pc : Int)] w fun e w' => e = .returned (.bool (insR m (pc : Int) (byAt m.code pc) (byAt m.code (pc + 1)))) ∧ Below w.heap.size w w' := by
  obtain ⟨la, lc, ca, cc, rfl, hl, hc⟩ := h.ex
  obtain ⟨b0, _⟩ := hc.at (byAt_some (C := m.code) (k := pc) (by omega))
  obtain ⟨b1, _⟩ := hc.at (byAt_some (C := m.code) (k := pc + 1) (by omega))
  have hf := fet_yes (C := m.code) (pc := (pc : Int)) (by omega) (by omega) (by omega)
  rw [Int.toNat_natCast] at hf
  generalize byAt m.code pc = op at *
  generalize byAt m.code (pc + 1) = arg at *
  have wa : IntKind.i64.wrap (m.args + m.temps) = m.args + m.temps := by rw [IntKind.wrap_i64]; omega
  have wp : IntKind.i64.wrap ((pc : Int) + 2) = (pc : Int) + 2 := by rw [IntKind.wrap_i64]; omega
  have w2 : IntKind.i64.wrap (2 * arg) = 2 * arg := by rw [IntKind.wrap_i64]; omega
  have w3 : IntKind.i64.wrap ((pc : Int) + 2 + 2 * arg) = (pc : Int) + 2 + 2 * arg := by rw [IntKind.wrap_i64]; omega
  have hB := MeB.born h
  have hW := (Below.refl w.heap.size w).alloc (Nat.le_refl _) (.cells #[.int .i64 m.args, .int .i64 m.temps, .slice la m.lits.length lc, .slice ca m.code.length cc] 37)
  have PF := kfetch_c hB.me (pc : Int) ⟨by omega, by omega⟩
  rw [hf] at PF
  replace PF := Lib.hid PF
  replace hB := Lib.hid hB
  replace hW := Lib.hid hW
  clear hf hl hc h
  have a0 := hB.out.c0
  have a1 := hB.out.c1
  have a2 := hB.out.c2
  have a3 := hB.out.c3
  go_enter Try.func37, Try.ntmps37
  go_upto_region 1 with fail
  generalize w.alloc (.cells #[.int .i64 m.args, .int .i64 m.temps, .slice la m.lits.length lc, .slice ca m.code.length cc] 37) = W at *
  go_wp2_with fail
  with_reducible refine PF.out.mono ?_
  rintro e1 w1 ⟨rfl, hb⟩
  have S : Hid (InS w (w1.alloc (.cells #[.int .i64 op, .int .i64 arg] 47)) w.heap.size w1.heap.size _ m la ca lc cc op arg) := Lib.hid ⟨(hB.out.up hb).up ((Below.refl _ _).alloc (Nat.le_refl _) _), by simp, by simp, (hW.out.trans (hb.mono hW.out.size)).trans (((Below.refl _ _).alloc (Nat.le_refl _) _).mono (hW.out.trans (hb.mono hW.out.size)).size)⟩
  clear hb PF a0 a1 a2 a3 hB hW
  go_upto_region 2 with fail
  generalize w1.alloc (.cells #[.int .i64 op, .int .i64 arg] 47) = W1 at *
  obtain ⟨Q, hQ⟩ : ∃ Q, Q = w1.heap.size := ⟨_, rfl⟩
  rw [← hQ] at S ⊢
  replace hQ := Lib.hid hQ
  have a0 := S.out.b.c0
  have a1 := S.out.b.c1
  have a2 := S.out.b.c2
  have a3 := S.out.b.c3
  have x0 := S.out.x0
  have x1 := S.out.x1
  by_cases hop : op ≤ 21
  · rcases (show op = 0 ∨ op = 1 ∨ op = 2 ∨ op = 3 ∨ op = 4 ∨ op = 5 ∨ op = 6 ∨ op = 7 ∨ op = 8 ∨ op = 9 ∨ op = 10 ∨ op = 11 ∨ op = 12 ∨ op = 13 ∨ op = 14 ∨ op = 15 ∨ op = 16 ∨ op = 17 ∨ op = 18 ∨ op = 19 ∨ op = 20 ∨ op = 21 by omega) with rfl | rfl | rfl | rfl | rfl | rfl | rfl | rfl | rfl | rfl | rfl | rfl | rfl | rfl | rfl | rfl | rfl | rfl | rfl | rfl | rfl | rfl
    · have e : Hid (insR m (pc : Int) 0 arg = decide (arg < m.args + m.temps)) := Lib.hid rfl
      go_wp2
      go_ret
      exact ⟨by rw [e.out]; rfl, S.out.bel⟩
    · have e : Hid (insR m (pc : Int) 1 arg = decide (arg < 62)) := Lib.hid rfl
      go_wp2
      go_ret
      exact ⟨by rw [e.out]; rfl, S.out.bel⟩
    · have e : Hid (insR m (pc : Int) 2 arg = hasLit m.lits arg 3) := Lib.hid rfl
      have PL := Lib.hid (khasLit_c S.out.b.me arg 3 b1.1 b1.2)
      go_wp2_with fail
      with_reducible refine PL.out.mono ?_
      rintro e2 w2' ⟨rfl, hb⟩
      go_wp2
      go_ret
      exact ⟨by rw [e.out]; rfl, (S.out.up hb).bel⟩
    · have e : Hid (insR m (pc : Int) 3 arg = true) := Lib.hid rfl
      go_wp2
      go_ret
      exact ⟨by rw [e.out]; rfl, S.out.bel⟩
    · have e : Hid (insR m (pc : Int) 4 arg = true) := Lib.hid rfl
      go_wp2
      go_ret
      exact ⟨by rw [e.out]; rfl, S.out.bel⟩
    · have e : Hid (insR m (pc : Int) 5 arg = true) := Lib.hid rfl
      go_wp2
      go_ret
      exact ⟨by rw [e.out]; rfl, S.out.bel⟩
    · have e : Hid (insR m (pc : Int) 6 arg = true) := Lib.hid rfl
      go_wp2
      go_ret
      exact ⟨by rw [e.out]; rfl, S.out.bel⟩
    · have e : Hid (insR m (pc : Int) 7 arg = true) := Lib.hid rfl
      go_wp2
      go_ret
      exact ⟨by rw [e.out]; rfl, S.out.bel⟩
    · have e : Hid (insR m (pc : Int) 8 arg = true) := Lib.hid rfl
      go_wp2
      go_ret
      exact ⟨by rw [e.out]; rfl, S.out.bel⟩
    · have e : Hid (insR m (pc : Int) 9 arg = true) := Lib.hid rfl
      go_wp2
      go_ret
      exact ⟨by rw [e.out]; rfl, S.out.bel⟩
    · have e : Hid (insR m (pc : Int) 10 arg = decide (arg < m.args + m.temps)) := Lib.hid rfl
      go_wp2
      go_ret
      exact ⟨by rw [e.out]; rfl, S.out.bel⟩
    · have e : Hid (insR m (pc : Int) 11 arg = decide (arg < 62)) := Lib.hid rfl
      go_wp2
      go_ret
      exact ⟨by rw [e.out]; rfl, S.out.bel⟩
    · have e : Hid (insR m (pc : Int) 12 arg = hasLit m.lits arg 5) := Lib.hid rfl
      have PL := Lib.hid (khasLit_c S.out.b.me arg 5 b1.1 b1.2)
      go_wp2_with fail
      with_reducible refine PL.out.mono ?_
      rintro e2 w2' ⟨rfl, hb⟩
      go_wp2
      go_ret
      exact ⟨by rw [e.out]; rfl, (S.out.up hb).bel⟩
    · have e : Hid (insR m (pc : Int) 13 arg = hasLit m.lits arg 5) := Lib.hid rfl
      have PL := Lib.hid (khasLit_c S.out.b.me arg 5 b1.1 b1.2)
      go_wp2_with fail
      with_reducible refine PL.out.mono ?_
      rintro e2 w2' ⟨rfl, hb⟩
      go_wp2
      go_ret
      exact ⟨by rw [e.out]; rfl, (S.out.up hb).bel⟩
    · have e : Hid (insR m (pc : Int) 14 arg = true) := Lib.hid rfl
      go_wp2
      go_ret
      exact ⟨by rw [e.out]; rfl, S.out.bel⟩
    · have e : Hid (insR m (pc : Int) 15 arg = decide ((pc : Int) + 2 + 2 * arg < (m.code.length : Int))) := Lib.hid rfl
      go_wp2
      go_ret
      exact ⟨by rw [e.out]; rfl, S.out.bel⟩
    · have e : Hid (insR m (pc : Int) 16 arg = decide (2 * arg ≤ (pc : Int))) := Lib.hid rfl
      go_wp2
      go_ret
      exact ⟨by rw [e.out]; rfl, S.out.bel⟩
    · have e : Hid (insR m (pc : Int) 17 arg = decide ((pc : Int) + 2 + 2 * arg < (m.code.length : Int))) := Lib.hid rfl
      go_wp2
      go_ret
      exact ⟨by rw [e.out]; rfl, S.out.bel⟩
    · have e : Hid (insR m (pc : Int) 18 arg = hasLit m.lits arg 7) := Lib.hid rfl
      have PL := Lib.hid (khasLit_c S.out.b.me arg 7 b1.1 b1.2)
      go_wp2_with fail
      with_reducible refine PL.out.mono ?_
      rintro e2 w2' ⟨rfl, hb⟩
      go_wp2
      go_ret
      exact ⟨by rw [e.out]; rfl, (S.out.up hb).bel⟩
    · have e : Hid (insR m (pc : Int) 19 arg = true) := Lib.hid rfl
      go_wp2
      go_ret
      exact ⟨by rw [e.out]; rfl, S.out.bel⟩
    · have e : Hid (insR m (pc : Int) 20 arg = (hasLit m.lits arg 6 && decide ((litAt m.lits arg).2 > 1))) := Lib.hid rfl
      obtain ⟨k, rfl⟩ : ∃ k : Nat, arg = k := ⟨arg.toNat, by omega⟩
      have PL := Lib.hid (khasLit_c S.out.b.me (k : Int) 6 b1.1 b1.2)
      cases hh : hasLit m.lits (k : Int) 6 with
      | true =>
        have hk : k < m.lits.length := by
          unfold hasLit at hh
          simp only [Bool.and_eq_true, decide_eq_true_eq] at hh
          omega
        have k0 : (0 : Int) ≤ (k : Int) := by omega
        have k1 : (k : Int) < (m.lits.length : Int) := by omega
        obtain ⟨_, _, g, off, rfl, c0, c1⟩ := S.out.b.py.1.at (litAt_some hk)
        rw [hh] at e PL
        clear hh
        have d2 : decide ((litAt m.lits (k : Int)).2 > 1) = decide ((litAt m.lits (k : Int)).2 ≥ 2) := decide_eq_decide.2 (by omega)
        rw [d2] at e
        clear d2
        generalize (litAt m.lits (k : Int)).2 = x at *
        go_wp2_with fail
        with_reducible refine PL.out.mono ?_
        rintro e2 w2' ⟨rfl, hb⟩
        have a0 := cell_up hb a0
        have a1 := cell_up hb a1
        have a2 := cell_up hb a2
        have a3 := cell_up hb a3
        have x0 := cell_up hb x0
        have x1 := cell_up hb x1
        have c1 := cell_up hb c1
        go_wp2
        go_ret
        exact ⟨by rw [e.out]; rfl, (S.out.up hb).bel⟩
      | false =>
        rw [hh] at e PL
        clear hh
        go_wp2_with fail
        with_reducible refine PL.out.mono ?_
        rintro e2 w2' ⟨rfl, hb⟩
        go_wp2
        go_ret
        exact ⟨by rw [e.out]; rfl, (S.out.up hb).bel⟩
    · have e : Hid (insR m (pc : Int) 21 arg = decide (arg ≤ 23)) := Lib.hid rfl
      have hn := tak_ne b1.1 b1.2
      have PT := Lib.hid (ktakes_c arg (in64_of (by omega) (by omega)) W1)
      generalize takR arg = tk at *
      go_wp2_with fail
      with_reducible refine PT.out.mono ?_
      rintro e2 w2' ⟨rfl, hb⟩
      go_wp2
      go_ret
      exact ⟨by rw [e.out]; rfl, (S.out.up hb).bel⟩
  · have e : Hid (insR m (pc : Int) op arg = false) := Lib.hid ((ins_other (by omega)).trans (decide_eq_false hop))
    have f0 : (op == 0) = false := by simp; omega
    have f1 : (op == 1) = false := by simp; omega
    have f2 : (op == 2) = false := by simp; omega
    have f3 : (op == 3) = false := by simp; omega
    have f4 : (op == 4) = false := by simp; omega
    have f5 : (op == 5) = false := by simp; omega
    have f6 : (op == 6) = false := by simp; omega
    have f7 : (op == 7) = false := by simp; omega
    have f8 : (op == 8) = false := by simp; omega
    have f9 : (op == 9) = false := by simp; omega
    have f10 : (op == 10) = false := by simp; omega
    have f11 : (op == 11) = false := by simp; omega
    have f12 : (op == 12) = false := by simp; omega
    have f13 : (op == 13) = false := by simp; omega
    have f14 : (op == 14) = false := by simp; omega
    have f15 : (op == 15) = false := by simp; omega
    have f16 : (op == 16) = false := by simp; omega
    have f17 : (op == 17) = false := by simp; omega
    have f18 : (op == 18) = false := by simp; omega
    have f19 : (op == 19) = false := by simp; omega
    have f20 : (op == 20) = false := by simp; omega
    have f21 : (op == 21) = false := by simp; omega
    clear hop
    go_wp2
    go_ret
    exact ⟨by rw [e.out]; rfl, S.out.bel⟩
end Wd
end Go.Proofs.Ythlijmdohejheaa
