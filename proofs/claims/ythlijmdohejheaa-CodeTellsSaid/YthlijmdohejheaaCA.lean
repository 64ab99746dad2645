/- The landed instructions: one of so many, slots, what a primitive takes, names, has a method such a literal. -/
import Derived.Test.YthlijmdohejheaaOLaw
namespace Go.Proofs.Ythlijmdohejheaa
open Go.RowKit
set_option linter.unusedVariables false
set_option maxRecDepth 20000
namespace Wd
theorem kisOne_c (x n : Int) (w : World) : Calls Try.prog 40 #[.int .i64 x, .int .i64 n] w fun e w' => e = .returned (.bool (decide (0 ≤ x) && decide (x < n))) ∧ w' = w := by
  by_cases h : 0 ≤ x
  · have d1 : decide (x ≥ 0) = true := by simpa using h
    rw [decide_eq_true h]
    go_enter Try.func40, Try.ntmps40
    go_wp2
    go_ret
    exact ⟨rfl, rfl⟩
  · have d1 : decide (x ≥ 0) = false := by simpa using h
    rw [decide_eq_false h]
    go_enter Try.func40, Try.ntmps40
    go_wp2
    go_ret
    exact ⟨rfl, rfl⟩
set_option maxHeartbeats 8000000 in
theorem ktakes_c (p : Int) (hp : In64 p) (w : World) : Calls Try.prog 16 #[.int .i64 p] w fun e w' => e = .returned (.int .i64 (takR p)) ∧ Below w.heap.size w w' := by
  by_cases h : p < 0 ∨ p > 23
  · have e : Hid (takR p = -1) := Lib.hid (if_pos h)
    have f0 : (p == 0) = false := by simp; omega
    have f1 : (p == 1) = false := by simp; omega
    have f2 : (p == 2) = false := by simp; omega
    have f3 : (p == 3) = false := by simp; omega
    have f4 : (p == 4) = false := by simp; omega
    have f5 : (p == 5) = false := by simp; omega
    have f6 : (p == 6) = false := by simp; omega
    have f7 : (p == 7) = false := by simp; omega
    have f8 : (p == 8) = false := by simp; omega
    have f9 : (p == 9) = false := by simp; omega
    have f10 : (p == 10) = false := by simp; omega
    have f11 : (p == 11) = false := by simp; omega
    have f12 : (p == 12) = false := by simp; omega
    have f13 : (p == 13) = false := by simp; omega
    have f14 : (p == 14) = false := by simp; omega
    have f15 : (p == 15) = false := by simp; omega
    have f16 : (p == 16) = false := by simp; omega
    have f17 : (p == 17) = false := by simp; omega
    have f18 : (p == 18) = false := by simp; omega
    have f19 : (p == 19) = false := by simp; omega
    have f20 : (p == 20) = false := by simp; omega
    have f21 : (p == 21) = false := by simp; omega
    have f22 : (p == 22) = false := by simp; omega
    have f23 : (p == 23) = false := by simp; omega
    clear h
    go_enter Try.func16, Try.ntmps16
    go_wp2
    go_ret
    exact ⟨by rw [e.out]; rfl, Below.refl _ _⟩
  · rcases (show p = 0 ∨ p = 1 ∨ p = 2 ∨ p = 3 ∨ p = 4 ∨ p = 5 ∨ p = 6 ∨ p = 7 ∨ p = 8 ∨ p = 9 ∨ p = 10 ∨ p = 11 ∨ p = 12 ∨ p = 13 ∨ p = 14 ∨ p = 15 ∨ p = 16 ∨ p = 17 ∨ p = 18 ∨ p = 19 ∨ p = 20 ∨ p = 21 ∨ p = 22 ∨ p = 23 by omega) with rfl | rfl | rfl | rfl | rfl | rfl | rfl | rfl | rfl | rfl | rfl | rfl | rfl | rfl | rfl | rfl | rfl | rfl | rfl | rfl | rfl | rfl | rfl | rfl
    · have e : Hid (takR 0 = 2) := Lib.hid (by decide +kernel)
      go_enter Try.func16, Try.ntmps16
      go_wp2
      go_ret
      exact ⟨by rw [e.out]; rfl, Below.refl _ _⟩
    · have e : Hid (takR 1 = 2) := Lib.hid (by decide +kernel)
      go_enter Try.func16, Try.ntmps16
      go_wp2
      go_ret
      exact ⟨by rw [e.out]; rfl, Below.refl _ _⟩
    · have e : Hid (takR 2 = 2) := Lib.hid (by decide +kernel)
      go_enter Try.func16, Try.ntmps16
      go_wp2
      go_ret
      exact ⟨by rw [e.out]; rfl, Below.refl _ _⟩
    · have e : Hid (takR 3 = 2) := Lib.hid (by decide +kernel)
      go_enter Try.func16, Try.ntmps16
      go_wp2
      go_ret
      exact ⟨by rw [e.out]; rfl, Below.refl _ _⟩
    · have e : Hid (takR 4 = 2) := Lib.hid (by decide +kernel)
      go_enter Try.func16, Try.ntmps16
      go_wp2
      go_ret
      exact ⟨by rw [e.out]; rfl, Below.refl _ _⟩
    · have e : Hid (takR 5 = 2) := Lib.hid (by decide +kernel)
      go_enter Try.func16, Try.ntmps16
      go_wp2
      go_ret
      exact ⟨by rw [e.out]; rfl, Below.refl _ _⟩
    · have e : Hid (takR 6 = 1) := Lib.hid (by decide +kernel)
      go_enter Try.func16, Try.ntmps16
      go_wp2
      go_ret
      exact ⟨by rw [e.out]; rfl, Below.refl _ _⟩
    · have e : Hid (takR 7 = 1) := Lib.hid (by decide +kernel)
      go_enter Try.func16, Try.ntmps16
      go_wp2
      go_ret
      exact ⟨by rw [e.out]; rfl, Below.refl _ _⟩
    · have e : Hid (takR 8 = 2) := Lib.hid (by decide +kernel)
      go_enter Try.func16, Try.ntmps16
      go_wp2
      go_ret
      exact ⟨by rw [e.out]; rfl, Below.refl _ _⟩
    · have e : Hid (takR 9 = 3) := Lib.hid (by decide +kernel)
      go_enter Try.func16, Try.ntmps16
      go_wp2
      go_ret
      exact ⟨by rw [e.out]; rfl, Below.refl _ _⟩
    · have e : Hid (takR 10 = 1) := Lib.hid (by decide +kernel)
      go_enter Try.func16, Try.ntmps16
      go_wp2
      go_ret
      exact ⟨by rw [e.out]; rfl, Below.refl _ _⟩
    · have e : Hid (takR 11 = 1) := Lib.hid (by decide +kernel)
      go_enter Try.func16, Try.ntmps16
      go_wp2
      go_ret
      exact ⟨by rw [e.out]; rfl, Below.refl _ _⟩
    · have e : Hid (takR 12 = 2) := Lib.hid (by decide +kernel)
      go_enter Try.func16, Try.ntmps16
      go_wp2
      go_ret
      exact ⟨by rw [e.out]; rfl, Below.refl _ _⟩
    · have e : Hid (takR 13 = 2) := Lib.hid (by decide +kernel)
      go_enter Try.func16, Try.ntmps16
      go_wp2
      go_ret
      exact ⟨by rw [e.out]; rfl, Below.refl _ _⟩
    · have e : Hid (takR 14 = 0) := Lib.hid (by decide +kernel)
      go_enter Try.func16, Try.ntmps16
      go_wp2
      go_ret
      exact ⟨by rw [e.out]; rfl, Below.refl _ _⟩
    · have e : Hid (takR 15 = 1) := Lib.hid (by decide +kernel)
      go_enter Try.func16, Try.ntmps16
      go_wp2
      go_ret
      exact ⟨by rw [e.out]; rfl, Below.refl _ _⟩
    · have e : Hid (takR 16 = 1) := Lib.hid (by decide +kernel)
      go_enter Try.func16, Try.ntmps16
      go_wp2
      go_ret
      exact ⟨by rw [e.out]; rfl, Below.refl _ _⟩
    · have e : Hid (takR 17 = 0) := Lib.hid (by decide +kernel)
      go_enter Try.func16, Try.ntmps16
      go_wp2
      go_ret
      exact ⟨by rw [e.out]; rfl, Below.refl _ _⟩
    · have e : Hid (takR 18 = 1) := Lib.hid (by decide +kernel)
      go_enter Try.func16, Try.ntmps16
      go_wp2
      go_ret
      exact ⟨by rw [e.out]; rfl, Below.refl _ _⟩
    · have e : Hid (takR 19 = 3) := Lib.hid (by decide +kernel)
      go_enter Try.func16, Try.ntmps16
      go_wp2
      go_ret
      exact ⟨by rw [e.out]; rfl, Below.refl _ _⟩
    · have e : Hid (takR 20 = 2) := Lib.hid (by decide +kernel)
      go_enter Try.func16, Try.ntmps16
      go_wp2
      go_ret
      exact ⟨by rw [e.out]; rfl, Below.refl _ _⟩
    · have e : Hid (takR 21 = 0) := Lib.hid (by decide +kernel)
      go_enter Try.func16, Try.ntmps16
      go_wp2
      go_ret
      exact ⟨by rw [e.out]; rfl, Below.refl _ _⟩
    · have e : Hid (takR 22 = 1) := Lib.hid (by decide +kernel)
      go_enter Try.func16, Try.ntmps16
      go_wp2
      go_ret
      exact ⟨by rw [e.out]; rfl, Below.refl _ _⟩
    · have e : Hid (takR 23 = 0) := Lib.hid (by decide +kernel)
      go_enter Try.func16, Try.ntmps16
      go_wp2
      go_ret
      exact ⟨by rw [e.out]; rfl, Below.refl _ _⟩
set_option maxHeartbeats 8000000 in
theorem kname_c (p : Int) (hp : In64 p) (w : World) : Calls Try.prog 17 #[.int .i64 p] w fun e w' => e = .returned (.string (namR p)) ∧ Below w.heap.size w w' := by
  by_cases h : p < 0 ∨ p > 21
  · have e : Hid (namR p = ⟨#[]⟩) := Lib.hid (if_pos h)
    have f0 : (p == 0) = false := by simp; omega
    have f1 : (p == 1) = false := by simp; omega
    have f2 : (p == 2) = false := by simp; omega
    have f3 : (p == 3) = false := by simp; omega
    have f4 : (p == 4) = false := by simp; omega
    have f5 : (p == 5) = false := by simp; omega
    have f6 : (p == 6) = false := by simp; omega
    have f7 : (p == 7) = false := by simp; omega
    have f8 : (p == 8) = false := by simp; omega
    have f9 : (p == 9) = false := by simp; omega
    have f10 : (p == 10) = false := by simp; omega
    have f11 : (p == 11) = false := by simp; omega
    have f12 : (p == 12) = false := by simp; omega
    have f13 : (p == 13) = false := by simp; omega
    have f14 : (p == 14) = false := by simp; omega
    have f15 : (p == 15) = false := by simp; omega
    have f16 : (p == 16) = false := by simp; omega
    have f17 : (p == 17) = false := by simp; omega
    have f18 : (p == 18) = false := by simp; omega
    have f19 : (p == 19) = false := by simp; omega
    have f20 : (p == 20) = false := by simp; omega
    have f21 : (p == 21) = false := by simp; omega
    clear h
    go_enter Try.func17, Try.ntmps17
    go_wp2
    go_ret
    exact ⟨by rw [e.out]; rfl, Below.refl _ _⟩
  · rcases (show p = 0 ∨ p = 1 ∨ p = 2 ∨ p = 3 ∨ p = 4 ∨ p = 5 ∨ p = 6 ∨ p = 7 ∨ p = 8 ∨ p = 9 ∨ p = 10 ∨ p = 11 ∨ p = 12 ∨ p = 13 ∨ p = 14 ∨ p = 15 ∨ p = 16 ∨ p = 17 ∨ p = 18 ∨ p = 19 ∨ p = 20 ∨ p = 21 by omega) with rfl | rfl | rfl | rfl | rfl | rfl | rfl | rfl | rfl | rfl | rfl | rfl | rfl | rfl | rfl | rfl | rfl | rfl | rfl | rfl | rfl | rfl
    · go_enter Try.func17, Try.ntmps17
      go_wp2
      go_ret
      exact ⟨rfl, Below.refl _ _⟩
    · go_enter Try.func17, Try.ntmps17
      go_wp2
      go_ret
      exact ⟨rfl, Below.refl _ _⟩
    · go_enter Try.func17, Try.ntmps17
      go_wp2
      go_ret
      exact ⟨rfl, Below.refl _ _⟩
    · go_enter Try.func17, Try.ntmps17
      go_wp2
      go_ret
      exact ⟨rfl, Below.refl _ _⟩
    · go_enter Try.func17, Try.ntmps17
      go_wp2
      go_ret
      exact ⟨rfl, Below.refl _ _⟩
    · go_enter Try.func17, Try.ntmps17
      go_wp2
      go_ret
      exact ⟨rfl, Below.refl _ _⟩
    · go_enter Try.func17, Try.ntmps17
      go_wp2
      go_ret
      exact ⟨rfl, Below.refl _ _⟩
    · go_enter Try.func17, Try.ntmps17
      go_wp2
      go_ret
      exact ⟨rfl, Below.refl _ _⟩
    · go_enter Try.func17, Try.ntmps17
      go_wp2
      go_ret
      exact ⟨rfl, Below.refl _ _⟩
    · go_enter Try.func17, Try.ntmps17
      go_wp2
      go_ret
      exact ⟨rfl, Below.refl _ _⟩
    · go_enter Try.func17, Try.ntmps17
      go_wp2
      go_ret
      exact ⟨rfl, Below.refl _ _⟩
    · go_enter Try.func17, Try.ntmps17
      go_wp2
      go_ret
      exact ⟨rfl, Below.refl _ _⟩
    · go_enter Try.func17, Try.ntmps17
      go_wp2
      go_ret
      exact ⟨rfl, Below.refl _ _⟩
    · go_enter Try.func17, Try.ntmps17
      go_wp2
      go_ret
      exact ⟨rfl, Below.refl _ _⟩
    · go_enter Try.func17, Try.ntmps17
      go_wp2
      go_ret
      exact ⟨rfl, Below.refl _ _⟩
    · go_enter Try.func17, Try.ntmps17
      go_wp2
      go_ret
      exact ⟨rfl, Below.refl _ _⟩
    · go_enter Try.func17, Try.ntmps17
      go_wp2
      go_ret
      exact ⟨rfl, Below.refl _ _⟩
    · go_enter Try.func17, Try.ntmps17
      go_wp2
      go_ret
      exact ⟨rfl, Below.refl _ _⟩
    · go_enter Try.func17, Try.ntmps17
      go_wp2
      go_ret
      exact ⟨rfl, Below.refl _ _⟩
    · go_enter Try.func17, Try.ntmps17
      go_wp2
      go_ret
      exact ⟨rfl, Below.refl _ _⟩
    · go_enter Try.func17, Try.ntmps17
      go_wp2
      go_ret
      exact ⟨rfl, Below.refl _ _⟩
    · go_enter Try.func17, Try.ntmps17
      go_wp2
      go_ret
      exact ⟨rfl, Below.refl _ _⟩
set_option maxHeartbeats 8000000 in
theorem khasLit_c {w : World} {v : Value} {m : MethA} (h : MeV w v m) (i kind : Int) (i0 : 0 ≤ i) (i1 : i ≤ 255) :
    Calls Try.prog 41 #[v, .int .i64 i, .int .i64 kind] w fun e w' => e = .returned (.bool (hasLit m.lits i kind)) ∧ Below w.heap.size w w' := by
  obtain ⟨la, lc, ca, cc, rfl, hl, hc⟩ := h.ex
  have hB := Lib.hid (MeB.born h)
  have hW := Lib.hid ((Below.refl w.heap.size w).alloc (Nat.le_refl _) (.cells #[.int .i64 m.args, .int .i64 m.temps, .slice la m.lits.length lc, .slice ca m.code.length cc] 37))
  have hle := len_le hl.le
  obtain ⟨k, rfl⟩ : ∃ k : Nat, i = k := ⟨i.toNat, by omega⟩
  by_cases h0 : k < m.lits.length
  · have d0 : decide ((k : Int) < (m.lits.length : Int)) = true := by simp; omega
    have k0 : (0 : Int) ≤ (k : Int) := by omega
    have k1 : (k : Int) < (m.lits.length : Int) := by omega
    obtain ⟨_, _, g, off, rfl, c0, c1⟩ := hB.out.py.1.at (litAt_some h0)
    have e : Hid (hasLit m.lits (k : Int) kind = ((litAt m.lits (k : Int)).1 == kind)) := Lib.hid (by
      unfold hasLit; rw [d0, Bool.true_and]; rfl)
    generalize (litAt m.lits (k : Int)).1 = x at *
    have a2 := hB.out.c2
    go_enter Try.func41, Try.ntmps41
    go_upto_region 1 with fail
    generalize w.alloc (.cells #[.int .i64 m.args, .int .i64 m.temps, .slice (some ⟨g, off, none⟩) m.lits.length lc, .slice ca m.code.length cc] 37) = W at *
    go_wp2
    go_ret
    exact ⟨by rw [e.out]; rfl, hW.out⟩
  · have d0 : decide ((k : Int) < (m.lits.length : Int)) = false := by simp; omega
    have e : Hid (hasLit m.lits (k : Int) kind = false) := Lib.hid (by unfold hasLit; rw [d0]; rfl)
    have a2 := hB.out.c2
    go_enter Try.func41, Try.ntmps41
    go_wp2
    go_ret
    exact ⟨by rw [e.out]; rfl, hW.out⟩
end Wd
end Go.Proofs.Ythlijmdohejheaa
