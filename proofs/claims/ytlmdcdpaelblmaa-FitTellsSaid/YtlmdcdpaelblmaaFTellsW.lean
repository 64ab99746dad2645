/- The laws' walks. -/
import Derived.Test.YtlmdcdpaelblmaaFKn
import Derived.OpenShut
import Derived.Deep.RegionHeld
namespace Go.Proofs.Ytlmdcdpaelblmaa
open Go.RowKit
namespace Wd
set_option maxHeartbeats 16000000 in
set_option maxRecDepth 100000 in
theorem tells_any (n : Int) (c0 : Int) (c1 : Int) (c2 : Int) (c3 : Int) (c4 : Int) (p : Int) (wn : (Lit.int .i64 n).wf = true) (wc0 : (Lit.int .i64 c0).wf = true) (wc1 : (Lit.int .i64 c1).wf = true) (wc2 : (Lit.int .i64 c2).wf = true) (wc3 : (Lit.int .i64 c3).wf = true) (wc4 : (Lit.int .i64 c4).wf = true) (wp : (Lit.int .i64 p).wf = true) (w : World) :
    Calls Try.prog 4 #[.int .i64 n, .agg #[.int .i64 c0, .int .i64 c1, .int .i64 c2, .int .i64 c3, .int .i64 c4], .int .i64 p] w fun e w' => e = .returned (.bool true) ∧ Gr w w' := by
  obtain ⟨pn, qn⟩ := bounds_i64 wn
  obtain ⟨pc0, qc0⟩ := bounds_i64 wc0
  obtain ⟨pc1, qc1⟩ := bounds_i64 wc1
  obtain ⟨pc2, qc2⟩ := bounds_i64 wc2
  obtain ⟨pc3, qc3⟩ := bounds_i64 wc3
  obtain ⟨pc4, qc4⟩ := bounds_i64 wc4
  obtain ⟨pp, qp⟩ := bounds_i64 wp
  clear wn wc0 wc1 wc2 wc3 wc4 wp
  have hg := Gr.refl w
  obtain ⟨x0, hx0, x00, x01⟩ : ∃ x : Int, bits .and .i64 c0 511 = x ∧ 0 ≤ x ∧ x ≤ 511 := ⟨_, rfl, by rw [i64_and511]; omega, by rw [i64_and511]; omega⟩
  obtain ⟨x1, hx1, x10, x11⟩ : ∃ x : Int, bits .and .i64 c1 511 = x ∧ 0 ≤ x ∧ x ≤ 511 := ⟨_, rfl, by rw [i64_and511]; omega, by rw [i64_and511]; omega⟩
  obtain ⟨x2, hx2, x20, x21⟩ : ∃ x : Int, bits .and .i64 c2 511 = x ∧ 0 ≤ x ∧ x ≤ 511 := ⟨_, rfl, by rw [i64_and511]; omega, by rw [i64_and511]; omega⟩
  obtain ⟨x3, hx3, x30, x31⟩ : ∃ x : Int, bits .and .i64 c3 511 = x ∧ 0 ≤ x ∧ x ≤ 511 := ⟨_, rfl, by rw [i64_and511]; omega, by rw [i64_and511]; omega⟩
  obtain ⟨x4, hx4, x40, x41⟩ : ∃ x : Int, bits .and .i64 c4 511 = x ∧ 0 ≤ x ∧ x ≤ 511 := ⟨_, rfl, by rw [i64_and511]; omega, by rw [i64_and511]; omega⟩
  have r0 : 1 + bits .and .i64 p 15 ≤ 16 := by rw [i64_and15]; omega
  have r1 : 1 ≤ 1 + bits .and .i64 p 15 := by rw [i64_and15]; omega
  go_enter Try.func4, Try.ntmps4
  go_wp2
  refine wp_loop_rounds 6 ?_
  rw [rounds_succ]
  go_wp2
  rw [rounds_succ]
  go_wp2
  rw [rounds_succ]
  go_wp2
  rw [rounds_succ]
  go_wp2
  rw [rounds_succ]
  go_wp2
  rw [rounds_succ]
  go_wp2_with (first | (go_at_call 8; ((with_reducible refine (same_c _ _ _ _ _ _ _ ?_ ?_ ?_ ?_ ?_ ?_ ?_ ?_ ?_ ?_ ?_ ?_ ?_ ?_ _).mono ?_); (first | with_reducible assumption | with_reducible exact (bits64_bd _ _ _).1 | with_reducible exact (bits64_bd _ _ _).2 | omega); (first | with_reducible assumption | with_reducible exact (bits64_bd _ _ _).1 | with_reducible exact (bits64_bd _ _ _).2 | omega); (first | with_reducible assumption | with_reducible exact (bits64_bd _ _ _).1 | with_reducible exact (bits64_bd _ _ _).2 | omega); (first | with_reducible assumption | with_reducible exact (bits64_bd _ _ _).1 | with_reducible exact (bits64_bd _ _ _).2 | omega); (first | with_reducible assumption | with_reducible exact (bits64_bd _ _ _).1 | with_reducible exact (bits64_bd _ _ _).2 | omega); (first | with_reducible assumption | with_reducible exact (bits64_bd _ _ _).1 | with_reducible exact (bits64_bd _ _ _).2 | omega); (first | with_reducible assumption | with_reducible exact (bits64_bd _ _ _).1 | with_reducible exact (bits64_bd _ _ _).2 | omega); (first | with_reducible assumption | with_reducible exact (bits64_bd _ _ _).1 | with_reducible exact (bits64_bd _ _ _).2 | omega); (first | with_reducible assumption | with_reducible exact (bits64_bd _ _ _).1 | with_reducible exact (bits64_bd _ _ _).2 | omega); (first | with_reducible assumption | with_reducible exact (bits64_bd _ _ _).1 | with_reducible exact (bits64_bd _ _ _).2 | omega); (first | with_reducible assumption | with_reducible exact (bits64_bd _ _ _).1 | with_reducible exact (bits64_bd _ _ _).2 | omega); (first | with_reducible assumption | with_reducible exact (bits64_bd _ _ _).1 | with_reducible exact (bits64_bd _ _ _).2 | omega); (first | with_reducible assumption | with_reducible exact (bits64_bd _ _ _).1 | with_reducible exact (bits64_bd _ _ _).2 | omega); (first | with_reducible assumption | with_reducible exact (bits64_bd _ _ _).1 | with_reducible exact (bits64_bd _ _ _).2 | omega); rintro e w' ⟨rfl, hb⟩; replace hg := Gr.trans (by (repeat' (first | with_reducible assumption | exact Gr.refl _ | (refine Gr.drew ?_) | (refine Gr.drewN ?_ _) | (refine Gr.alloc ?_ _)))) hb; (first | (replace k0 := Gr.cell hb k0; replace k1 := Gr.cell hb k1; replace k2 := Gr.cell hb k2; replace k3 := Gr.cell hb k3; replace k4 := Gr.cell hb k4) | (have k0 := Gr.cell hb (p := ⟨w.heap.size + 1, 0, none⟩) (v := .int .i64 x0) (by simp); have k1 := Gr.cell hb (p := ⟨w.heap.size + 1, 1, none⟩) (v := .int .i64 x1) (by simp); have k2 := Gr.cell hb (p := ⟨w.heap.size + 1, 2, none⟩) (v := .int .i64 x2) (by simp); have k3 := Gr.cell hb (p := ⟨w.heap.size + 1, 3, none⟩) (v := .int .i64 x3) (by simp); have k4 := Gr.cell hb (p := ⟨w.heap.size + 1, 4, none⟩) (v := .int .i64 x4) (by simp))); clear hb)) | (go_at_call 9; ((with_reducible refine (known_c _).mono ?_); rintro e w' ⟨rfl, hb⟩; replace hg := Gr.trans (by (repeat' (first | with_reducible assumption | exact Gr.refl _ | (refine Gr.drew ?_) | (refine Gr.drewN ?_ _) | (refine Gr.alloc ?_ _)))) hb; clear hb)))
  go_ret
  exact ⟨rfl, Gr.trans (by (repeat' (first | with_reducible assumption | exact Gr.refl _ | (refine Gr.drew ?_) | (refine Gr.drewN ?_ _) | (refine Gr.alloc ?_ _)))) hg⟩
end Wd
end Go.Proofs.Ytlmdcdpaelblmaa
