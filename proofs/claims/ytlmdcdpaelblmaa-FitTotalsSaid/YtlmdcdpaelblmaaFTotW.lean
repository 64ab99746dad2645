/- The laws' walks. -/
import Derived.Test.YtlmdcdpaelblmaaFKn
import Derived.Test.YtlmdcdpaelblmaaFR9T
import Derived.LoopN
import Derived.OpenShut
import Derived.Deep.RegionHeld
namespace Go.Proofs.Ytlmdcdpaelblmaa
open Go.RowKit
namespace Wd
set_option maxHeartbeats 16000000 in
set_option maxRecDepth 100000 in
theorem totals_any (a0 : Int) (a1 : Int) (a2 : Int) (a3 : Int) (a4 : Int) (b0 : Int) (b1 : Int) (b2 : Int) (b3 : Int) (b4 : Int) (p : Int) (wa0 : (Lit.int .i64 a0).wf = true) (wa1 : (Lit.int .i64 a1).wf = true) (wa2 : (Lit.int .i64 a2).wf = true) (wa3 : (Lit.int .i64 a3).wf = true) (wa4 : (Lit.int .i64 a4).wf = true) (wb0 : (Lit.int .i64 b0).wf = true) (wb1 : (Lit.int .i64 b1).wf = true) (wb2 : (Lit.int .i64 b2).wf = true) (wb3 : (Lit.int .i64 b3).wf = true) (wb4 : (Lit.int .i64 b4).wf = true) (wp : (Lit.int .i64 p).wf = true) (w : World) :
    Calls Try.prog 6 #[.agg #[.int .i64 a0, .int .i64 a1, .int .i64 a2, .int .i64 a3, .int .i64 a4], .agg #[.int .i64 b0, .int .i64 b1, .int .i64 b2, .int .i64 b3, .int .i64 b4], .int .i64 p] w fun e w' => e = .returned (.bool true) ∧ Gr w w' := by
  obtain ⟨pa0, qa0⟩ := bounds_i64 wa0
  obtain ⟨pa1, qa1⟩ := bounds_i64 wa1
  obtain ⟨pa2, qa2⟩ := bounds_i64 wa2
  obtain ⟨pa3, qa3⟩ := bounds_i64 wa3
  obtain ⟨pa4, qa4⟩ := bounds_i64 wa4
  obtain ⟨pb0, qb0⟩ := bounds_i64 wb0
  obtain ⟨pb1, qb1⟩ := bounds_i64 wb1
  obtain ⟨pb2, qb2⟩ := bounds_i64 wb2
  obtain ⟨pb3, qb3⟩ := bounds_i64 wb3
  obtain ⟨pb4, qb4⟩ := bounds_i64 wb4
  obtain ⟨pp, qp⟩ := bounds_i64 wp
  clear wa0 wa1 wa2 wa3 wa4 wb0 wb1 wb2 wb3 wb4 wp
  have hg := Gr.refl w
  obtain ⟨x0, hx0, x00, x01⟩ : ∃ x : Int, bits .and .i64 a0 63 = x ∧ 0 ≤ x ∧ x ≤ 63 := ⟨_, rfl, by rw [i64_and63]; omega, by rw [i64_and63]; omega⟩
  obtain ⟨x1, hx1, x10, x11⟩ : ∃ x : Int, bits .and .i64 a1 63 = x ∧ 0 ≤ x ∧ x ≤ 63 := ⟨_, rfl, by rw [i64_and63]; omega, by rw [i64_and63]; omega⟩
  obtain ⟨x2, hx2, x20, x21⟩ : ∃ x : Int, bits .and .i64 a2 63 = x ∧ 0 ≤ x ∧ x ≤ 63 := ⟨_, rfl, by rw [i64_and63]; omega, by rw [i64_and63]; omega⟩
  obtain ⟨x3, hx3, x30, x31⟩ : ∃ x : Int, bits .and .i64 a3 63 = x ∧ 0 ≤ x ∧ x ≤ 63 := ⟨_, rfl, by rw [i64_and63]; omega, by rw [i64_and63]; omega⟩
  obtain ⟨x4, hx4, x40, x41⟩ : ∃ x : Int, bits .and .i64 a4 63 = x ∧ 0 ≤ x ∧ x ≤ 63 := ⟨_, rfl, by rw [i64_and63]; omega, by rw [i64_and63]; omega⟩
  obtain ⟨y0, hy0, y00, y01⟩ : ∃ x : Int, bits .and .i64 b0 63 = x ∧ 0 ≤ x ∧ x ≤ 63 := ⟨_, rfl, by rw [i64_and63]; omega, by rw [i64_and63]; omega⟩
  obtain ⟨y1, hy1, y10, y11⟩ : ∃ x : Int, bits .and .i64 b1 63 = x ∧ 0 ≤ x ∧ x ≤ 63 := ⟨_, rfl, by rw [i64_and63]; omega, by rw [i64_and63]; omega⟩
  obtain ⟨y2, hy2, y20, y21⟩ : ∃ x : Int, bits .and .i64 b2 63 = x ∧ 0 ≤ x ∧ x ≤ 63 := ⟨_, rfl, by rw [i64_and63]; omega, by rw [i64_and63]; omega⟩
  obtain ⟨y3, hy3, y30, y31⟩ : ∃ x : Int, bits .and .i64 b3 63 = x ∧ 0 ≤ x ∧ x ≤ 63 := ⟨_, rfl, by rw [i64_and63]; omega, by rw [i64_and63]; omega⟩
  obtain ⟨y4, hy4, y40, y41⟩ : ∃ x : Int, bits .and .i64 b4 63 = x ∧ 0 ≤ x ∧ x ≤ 63 := ⟨_, rfl, by rw [i64_and63]; omega, by rw [i64_and63]; omega⟩
  obtain ⟨s, hs, s0, s1⟩ : ∃ x : Int, bits .and .i64 p 15 = x ∧ 0 ≤ x ∧ x ≤ 15 := ⟨_, rfl, by rw [i64_and15]; omega, by rw [i64_and15]; omega⟩
  go_enter Try.func6, Try.ntmps6
  go_wp2
  refine wp_loop_rounds 6 ?_
  rw [rounds_succ]
  go_wp2
  go_region
  go_wp2
  go_region
  go_wp2
  rw [rounds_succ]
  go_wp2
  go_region
  go_wp2
  go_region
  go_wp2
  rw [rounds_succ]
  go_wp2
  go_region
  go_wp2
  go_region
  go_wp2
  rw [rounds_succ]
  go_wp2
  go_region
  go_wp2
  go_region
  go_wp2
  rw [rounds_succ]
  go_wp2
  go_region
  go_wp2
  go_region
  go_wp2
  rw [rounds_succ]
  go_wp2
  refine reg9tail x0 x1 x2 x3 x4 y0 y1 y2 y3 y4 (1 + s) x00 x01 x10 x11 x20 x21 x30 x31 x40 x41 y00 y01 y10 y11 y20 y21 y30 y31 y40 y41 (by omega) (by omega) (w.heap.size + 1 + 1) w _ (by omega) (w10 w _ _ _ (w.heap.size + 1 + 1) rfl x0 x1 x2 x3 x4 y0 y1 y2 y3 y4 (1 + s)) _ _ _ _ _ _ _ _ _ _ _ _ _ _ _ _ _ _ _ _ _ _ _ _ _ _ _ _ _ _ _ _ _ _ _ _ _ _ _ _ _ _ _ _ _ _ _ _ _ _ _ _ _ ?_
  assumption
end Wd
end Go.Proofs.Ytlmdcdpaelblmaa
