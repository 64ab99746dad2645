/- The landed instructions: Fetch. -/
import Derived.Test.YthlijmdohejheaaOLaw
import Derived.StillTailTactics
namespace Go.Proofs.Ythlijmdohejheaa
open Go.RowKit
set_option linter.unusedVariables false
set_option maxRecDepth 20000
namespace Wd
theorem two_at {w : World} {q : Nat} {v0 v1 u0 u1 : Value} (c0 : w.cell? ⟨q, 0, none⟩ = some u0) (c1 : w.cell? ⟨q, 1, none⟩ = some u1) : ((w.setCell ⟨q, 0, none⟩ v0).setCell ⟨q, 1, none⟩ v1).cell? ⟨q, 0, none⟩ = some v0 ∧ ((w.setCell ⟨q, 0, none⟩ v0).setCell ⟨q, 1, none⟩ v1).cell? ⟨q, 1, none⟩ = some v1 :=
  ⟨(World.cell?_setCell_other _ _ _ _ (by simp)).trans (World.cell?_setCell_same _ _ _ c0), World.cell?_setCell_same _ _ _ ((World.cell?_setCell_other _ _ _ _ (by simp)).trans c1)⟩
set_option maxHeartbeats 8000000 in
theorem kfetch_c {w : World} {v : Value} {m : MethA} (h : MeV w v m) (pc : Int) (hp : In64 pc) :
    Calls Try.prog 15 #[v, .int .i64 pc] w fun e w' => e = .returned (.tuple #[.agg #[.int .i64 (fetR m.code pc).1, .int .i64 (fetR m.code pc).2.1], .bool (fetR m.code pc).2.2]) ∧ Below w.heap.size w w' := by
  obtain ⟨la, lc, ca, cc, rfl, hl, hc⟩ := h.ex
  have hB0 := MeB.born h
  have hW0 := (Below.refl w.heap.size w).alloc (Nat.le_refl _) (.cells #[.int .i64 m.args, .int .i64 m.temps, .slice la m.lits.length lc, .slice ca m.code.length cc] 37)
  have hle := len_le hc.le
  obtain ⟨p0, p1⟩ := hp
  have wl : IntKind.i64.wrap ((m.code.length : Int) - 1) = (m.code.length : Int) - 1 := by rw [IntKind.wrap_i64]; omega
  have hB1 := hB0.up ((Below.refl _ _).alloc (Nat.le_refl _) (.cells #[.int .i64 0, .int .i64 0] 47))
  have hW1 := hW0.trans (((Below.refl _ _).alloc (Nat.le_refl _) (.cells #[.int .i64 0, .int .i64 0] 47)).mono hW0.size)
  have x0 : ((w.alloc (.cells #[.int .i64 m.args, .int .i64 m.temps, .slice la m.lits.length lc, .slice ca m.code.length cc] 37)).alloc (.cells #[.int .i64 0, .int .i64 0] 47)).cell? ⟨(w.alloc (.cells #[.int .i64 m.args, .int .i64 m.temps, .slice la m.lits.length lc, .slice ca m.code.length cc] 37)).heap.size, 0, none⟩ = some (.int .i64 0) := by simp
  have x1 : ((w.alloc (.cells #[.int .i64 m.args, .int .i64 m.temps, .slice la m.lits.length lc, .slice ca m.code.length cc] 37)).alloc (.cells #[.int .i64 0, .int .i64 0] 47)).cell? ⟨(w.alloc (.cells #[.int .i64 m.args, .int .i64 m.temps, .slice la m.lits.length lc, .slice ca m.code.length cc] 37)).heap.size, 1, none⟩ = some (.int .i64 0) := by simp
  have hs : (w.alloc (.cells #[.int .i64 m.args, .int .i64 m.temps, .slice la m.lits.length lc, .slice ca m.code.length cc] 37)).heap.size = w.heap.size + 1 := by simp
  rw [hs] at x0 x1
  have a3 := hB1.c3
  have fz : ∀ k, ((w.alloc (.cells #[.int .i64 m.args, .int .i64 m.temps, .slice la m.lits.length lc, .slice ca m.code.length cc] 37)).alloc (.cells #[.int .i64 0, .int .i64 0] 47)).frozen? ⟨w.heap.size + 1, k, none⟩ = false := fun k => by rw [← hs]; simp
  replace hB0 := Lib.hid hB1
  replace hW0 := Lib.hid hW1
  go_enter Try.func15, Try.ntmps15
  go_upto_region 1 with fail
  clear h hB1 hW1 hs
  generalize (w.alloc (.cells #[.int .i64 m.args, .int .i64 m.temps, .slice la m.lits.length lc, .slice ca m.code.length cc] 37)).alloc (.cells #[.int .i64 0, .int .i64 0] 47) = W at *
  obtain ⟨Q, hQ⟩ : ∃ Q, Q = w.heap.size + 1 := ⟨_, rfl⟩
  rw [← hQ] at x0 x1 fz ⊢
  have fz0 := fz 0
  have fz1 := fz 1
  have hQ1 := Lib.hid (show w.heap.size ≤ Q by omega)
  clear hQ
  by_cases h0 : pc < 0
  · have d1 : decide (pc < 0) = true := by simpa using h0
    have e := Lib.hid (fet_no (C := m.code) (Or.inl h0))
    go_wp2
    obtain ⟨r0, r1⟩ := two_at (v0 := .int .i64 0) (v1 := .int .i64 0) x0 x1
    refine bodyPost_ret (by simp [results, Try.results15, go_sem, r0, r1]; try rfl) rfl ?_
    refine ⟨by rw [e.out], ?_⟩
    exact (hW0.out.setCell hQ1.out _).setCell hQ1.out _
  · have d1 : decide (pc < 0) = false := by simpa using h0
    obtain ⟨k, rfl⟩ : ∃ k : Nat, pc = k := ⟨pc.toNat, by omega⟩
    have hm := mod2 (n := k)
    rcases (show k % 2 = 1 ∨ k % 2 = 0 by omega) with h1 | h1
    · have e := Lib.hid (fet_no (C := m.code) (pc := (k : Int)) (Or.inr (Or.inl (by omega))))
      rw [h1] at hm
      replace hm : Int.tmod (k : Int) 2 = 1 := hm
      go_wp2
      obtain ⟨r0, r1⟩ := two_at (v0 := .int .i64 0) (v1 := .int .i64 0) x0 x1
      refine bodyPost_ret (by simp [results, Try.results15, go_sem, r0, r1]; try rfl) rfl ?_
      refine ⟨by rw [e.out], ?_⟩
      exact (hW0.out.setCell hQ1.out _).setCell hQ1.out _
    · rw [h1] at hm
      replace hm : Int.tmod (k : Int) 2 = 0 := hm
      by_cases h2 : (k : Int) > (m.code.length : Int) - 2
      · have e := Lib.hid (fet_no (C := m.code) (pc := (k : Int)) (Or.inr (Or.inr h2)))
        have d2 : decide ((k : Int) ≥ (m.code.length : Int) - 1) = true := by simp; omega
        go_wp2
        obtain ⟨r0, r1⟩ := two_at (v0 := .int .i64 0) (v1 := .int .i64 0) x0 x1
        refine bodyPost_ret (by simp [results, Try.results15, go_sem, r0, r1]; try rfl) rfl ?_
        refine ⟨by rw [e.out], ?_⟩
        exact (hW0.out.setCell hQ1.out _).setCell hQ1.out _
      · have e := fet_yes (C := m.code) (pc := (k : Int)) (by omega) (by omega) (by omega)
        have d2 : decide ((k : Int) ≥ (m.code.length : Int) - 1) = false := by simp; omega
        rw [Int.toNat_natCast] at e
        replace e := Lib.hid e
        have k0 : (0 : Int) ≤ (k : Int) := by omega
        have k1 : (k : Int) < (m.code.length : Int) := by omega
        have k2 : (0 : Int) ≤ (k : Int) + 1 := by omega
        have k3 : (k : Int) + 1 < (m.code.length : Int) := by omega
        have wk : IntKind.i64.wrap ((k : Int) + 1) = (k : Int) + 1 := by rw [IntKind.wrap_i64]; omega
        obtain ⟨b0, g, off, rfl, c0⟩ := hB0.out.py.2.at (byAt_some (C := m.code) (k := k) (by omega))
        obtain ⟨b1, g', off', eg, c1⟩ := hB0.out.py.2.at (byAt_some (C := m.code) (k := k + 1) (by omega))
        cases eg
        generalize byAt m.code k = x at *
        generalize byAt m.code (k + 1) = y at *
        have wx : IntKind.i64.wrap x = x := by rw [IntKind.wrap_i64]; omega
        have wy : IntKind.i64.wrap y = y := by rw [IntKind.wrap_i64]; omega
        go_upto_region 3 with fail
        go_still_tail 14, (by kernel_rfl)
        change wpList _ _ _ _ _ (World.drew _)
        go_wp2
        obtain ⟨r0, r1⟩ := two_at (v0 := .int .i64 x) (v1 := .int .i64 y) x0 x1
        replace hW0 := Lib.hid ((hW0.out.setCell hQ1.out (a := w) (p := ⟨Q, 0, none⟩) (.int .i64 x)).setCell hQ1.out (p := ⟨Q, 1, none⟩) (.int .i64 y))
        generalize (W.setCell ⟨Q, 0, none⟩ (.int .i64 x)).setCell ⟨Q, 1, none⟩ (.int .i64 y) = W9 at *
        replace r0 : W9.drew.cell? ⟨Q, 0, none⟩ = _ := r0
        replace r1 : W9.drew.cell? ⟨Q, 1, none⟩ = _ := r1
        refine bodyPost_ret (by simp [results, Try.results15, go_sem, r0, r1]; try rfl) rfl ?_
        exact ⟨by rw [e.out], hW0.out.drew⟩
end Wd
end Go.Proofs.Ythlijmdohejheaa
