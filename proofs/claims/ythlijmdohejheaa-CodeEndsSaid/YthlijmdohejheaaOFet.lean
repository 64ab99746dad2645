/- The document's own instructions: Fetch, one of a method; is it right? -/
import Derived.Test.YthlijmdohejheaaORef
namespace Go.Proofs.Ythlijmdohejheaa
open Go.RowKit
set_option linter.unusedVariables false
set_option maxRecDepth 20000
namespace Wd
/-- a method in a box of its own -/
structure MeB (w : World) (q : Nat) (v : Value) (m : MethA) (la ca : Option Addr) (lc cc : Nat) : Prop where
  e : v = .agg #[.int .i64 m.args, .int .i64 m.temps, .slice la m.lits.length lc, .slice ca m.code.length cc]
  c0 : w.cell? ⟨q, 0, none⟩ = some (.int .i64 m.args)
  c1 : w.cell? ⟨q, 1, none⟩ = some (.int .i64 m.temps)
  c2 : w.cell? ⟨q, 2, none⟩ = some (.slice la m.lits.length lc)
  c3 : w.cell? ⟨q, 3, none⟩ = some (.slice ca m.code.length cc)
  me : MeV w v m
theorem MeB.born {w : World} {m : MethA} {la ca : Option Addr} {lc cc : Nat} (h : MeV w (.agg #[.int .i64 m.args, .int .i64 m.temps, .slice la m.lits.length lc, .slice ca m.code.length cc]) m) : MeB (w.alloc (.cells #[.int .i64 m.args, .int .i64 m.temps, .slice la m.lits.length lc, .slice ca m.code.length cc] 37)) w.heap.size (.agg #[.int .i64 m.args, .int .i64 m.temps, .slice la m.lits.length lc, .slice ca m.code.length cc]) m la ca lc cc :=
  ⟨rfl, by simp, by simp, by simp, by simp, h.up ((Below.refl _ _).alloc (Nat.le_refl _) _)⟩
theorem MeB.lt {w : World} {q : Nat} {v : Value} {m : MethA} {la ca : Option Addr} {lc cc : Nat} (h : MeB w q v m la ca lc cc) : q < w.heap.size := World.block_lt_of_cell? w _ h.c0
theorem MeB.up {w w1 : World} {q : Nat} {v : Value} {m : MethA} {la ca : Option Addr} {lc cc : Nat} (h : MeB w q v m la ca lc cc) (b : Below w.heap.size w w1) : MeB w1 q v m la ca lc cc :=
  ⟨h.e, cell_up b h.c0, cell_up b h.c1, cell_up b h.c2, cell_up b h.c3, h.me.up b⟩
theorem MeB.py {w : World} {q : Nat} {v : Value} {m : MethA} {la ca : Option Addr} {lc cc : Nat} (h : MeB w q v m la ca lc cc) : PrV w (.slice la m.lits.length lc) m.lits ∧ ByV w (.slice ca m.code.length cc) m.code := by
  obtain ⟨la', lc', ca', cc', e, h1, h2⟩ := h.me.ex
  rw [h.e] at e
  cases e
  exact ⟨h1, h2⟩
theorem len_le {n : Nat} (h : n ≤ maxLen) : (n : Int) ≤ 9223372036854775807 := by
  have : maxLen ≤ 9223372036854775807 := by decide
  omega
set_option maxHeartbeats 8000000 in
theorem rfetch_c {w : World} {v : Value} {m : MethA} (h : MeV w v m) (pc : Int) (hp : In64 pc) :
    Calls Try.prog 23 #[v, .int .i64 pc] w fun e w' => e = .returned (.tuple #[.int .i64 (fetR m.code pc).1, .int .i64 (fetR m.code pc).2.1, .bool (fetR m.code pc).2.2]) ∧ Below w.heap.size w w' := by
  obtain ⟨la, lc, ca, cc, rfl, hl, hc⟩ := h.ex
  have hB := Lib.hid (MeB.born h)
  have hW := Lib.hid ((Below.refl w.heap.size w).alloc (Nat.le_refl _) (.cells #[.int .i64 m.args, .int .i64 m.temps, .slice la m.lits.length lc, .slice ca m.code.length cc] 37))
  have hle := len_le hc.le
  obtain ⟨p0, p1⟩ := hp
  by_cases h0 : pc < 0
  · have d1 : decide (pc < 0) = true := by simpa using h0
    have e := Lib.hid (fet_no (C := m.code) (Or.inl h0))
    go_enter Try.func23, Try.ntmps23
    go_wp2
    go_returns
    exact ⟨by rw [e.out]; rfl, hW.out⟩
  · have d1 : decide (pc < 0) = false := by simpa using h0
    obtain ⟨k, rfl⟩ : ∃ k : Nat, pc = k := ⟨pc.toNat, by omega⟩
    have hm := mod2 (n := k)
    rcases (show k % 2 = 1 ∨ k % 2 = 0 by omega) with h1 | h1
    · have e := Lib.hid (fet_no (C := m.code) (pc := (k : Int)) (Or.inr (Or.inl (by omega))))
      rw [h1] at hm
      replace hm : Int.tmod (k : Int) 2 = 1 := hm
      go_enter Try.func23, Try.ntmps23
      go_wp2
      go_returns
      exact ⟨by rw [e.out]; rfl, hW.out⟩
    · rw [h1] at hm
      replace hm : Int.tmod (k : Int) 2 = 0 := hm
      have wm : IntKind.i64.wrap ((m.code.length : Int) - 2) = (m.code.length : Int) - 2 := by rw [IntKind.wrap_i64]; omega
      by_cases h2 : (k : Int) > (m.code.length : Int) - 2
      · have e := Lib.hid (fet_no (C := m.code) (pc := (k : Int)) (Or.inr (Or.inr h2)))
        have d2 : decide ((k : Int) > (m.code.length : Int) - 2) = true := by simpa using h2
        go_enter Try.func23, Try.ntmps23
        go_wp2
        go_returns
        exact ⟨by rw [e.out]; rfl, hW.out⟩
      · have e := fet_yes (C := m.code) (pc := (k : Int)) (by omega) (by omega) (by omega)
        have d2 : decide ((k : Int) > (m.code.length : Int) - 2) = false := by simpa using h2
        rw [Int.toNat_natCast] at e
        replace e := Lib.hid e
        have k0 : (0 : Int) ≤ (k : Int) := by omega
        have k1 : (k : Int) < (m.code.length : Int) := by omega
        have k2 : (0 : Int) ≤ (k : Int) + 1 := by omega
        have k3 : (k : Int) + 1 < (m.code.length : Int) := by omega
        have wk : IntKind.i64.wrap ((k : Int) + 1) = (k : Int) + 1 := by rw [IntKind.wrap_i64]; omega
        obtain ⟨b0, g, off, rfl, c0⟩ := hB.out.py.2.at (byAt_some (C := m.code) (k := k) (by omega))
        obtain ⟨b1, g', off', eg, c1⟩ := hB.out.py.2.at (byAt_some (C := m.code) (k := k + 1) (by omega))
        cases eg
        generalize byAt m.code k = x at *
        generalize byAt m.code (k + 1) = y at *
        have wx : IntKind.i64.wrap x = x := by rw [IntKind.wrap_i64]; omega
        have wy : IntKind.i64.wrap y = y := by rw [IntKind.wrap_i64]; omega
        have a0 := hB.out.c0
        have a1 := hB.out.c1
        have a2 := hB.out.c2
        have a3 := hB.out.c3
        go_enter Try.func23, Try.ntmps23
        go_upto_region 1 with fail
        generalize w.alloc (.cells #[.int .i64 m.args, .int .i64 m.temps, .slice la m.lits.length lc, .slice (some ⟨g, off, none⟩) m.code.length cc] 37) = W at *
        go_wp2
        go_big_quiet (fail)
        go_wp2
        go_returns
        exact ⟨by rw [e.out]; rfl, hW.out.trans (Below.mono (drewK _ _) hW.out.size)⟩
end Wd
end Go.Proofs.Ythlijmdohejheaa
