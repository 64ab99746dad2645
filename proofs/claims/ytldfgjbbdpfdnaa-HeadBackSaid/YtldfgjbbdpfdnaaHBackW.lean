/- The laws' walks. -/
import Derived.Test.YtldfgjbbdpfdnaaHKnown
import Derived.OpenShut
import Derived.Deep.RegionHeld
namespace Go.Proofs.Ytldfgjbbdpfdnaa
open Go.RowKit
namespace Wd
set_option maxHeartbeats 16000000 in
set_option maxRecDepth 100000 in
theorem back_any (a0 : Int) (a1 : Int) (a2 : Int) (a3 : Int) (a4 : Int) (a5 : Int) (w0 : (Lit.int .i64 a0).wf = true) (w1 : (Lit.int .i64 a1).wf = true) (w2 : (Lit.int .i64 a2).wf = true) (w3 : (Lit.int .i64 a3).wf = true) (w4 : (Lit.int .i64 a4).wf = true) (w5 : (Lit.int .i64 a5).wf = true) (w : World) :
    Calls Try.prog 5 #[.int .i64 a0, .int .i64 a1, .int .i64 a2, .int .i64 a3, .int .i64 a4, .int .i64 a5] w fun e w' => e = .returned (.bool true) ∧ Gr w w' := by
  obtain ⟨p0, q0⟩ := bounds_i64 w0
  obtain ⟨p1, q1⟩ := bounds_i64 w1
  obtain ⟨p2, q2⟩ := bounds_i64 w2
  obtain ⟨p3, q3⟩ := bounds_i64 w3
  obtain ⟨p4, q4⟩ := bounds_i64 w4
  obtain ⟨p5, q5⟩ := bounds_i64 w5
  clear w0 w1 w2 w3 w4 w5
  have hg := Gr.refl w
  obtain ⟨x, hx, x0, x1⟩ : ∃ x : Int, bits .and .i64 a0 4095 = x ∧ 0 ≤ x ∧ x ≤ 4095 := ⟨_, rfl, by rw [i64_and4095]; omega, by rw [i64_and4095]; omega⟩
  obtain ⟨y, hy, y0, y1⟩ : ∃ x : Int, bits .and .i64 a1 255 = x ∧ 0 ≤ x ∧ x ≤ 255 := ⟨_, rfl, by rw [i64_and255]; omega, by rw [i64_and255]; omega⟩
  obtain ⟨z, hz, z0, z1⟩ : ∃ x : Int, bits .and .i64 a2 15 = x ∧ 0 ≤ x ∧ x ≤ 15 := ⟨_, rfl, by rw [i64_and15]; omega, by rw [i64_and15]; omega⟩
  have k1 : hok x y z = true := (hok_iff _ _ _).2 ⟨⟨x0, x1⟩, ⟨y0, y1⟩, ⟨z0, z1⟩⟩
  obtain ⟨o1, o2, o3, o4⟩ := pk_open x y z k1
  obtain ⟨v, hv, v0, v1⟩ : ∃ v, pk x y z = v ∧ 0 ≤ v ∧ v ≤ 4294967295 := ⟨_, rfl, (pk_bd _ _ _).1, (pk_bd _ _ _).2⟩
  rw [hv] at o1 o2 o3 o4
  obtain ⟨x', hx', x0', x1'⟩ : ∃ x : Int, bits .and .i64 a3 4095 = x ∧ 0 ≤ x ∧ x ≤ 4095 := ⟨_, rfl, by rw [i64_and4095]; omega, by rw [i64_and4095]; omega⟩
  obtain ⟨y', hy', y0', y1'⟩ : ∃ x : Int, bits .and .i64 a4 255 = x ∧ 0 ≤ x ∧ x ≤ 255 := ⟨_, rfl, by rw [i64_and255]; omega, by rw [i64_and255]; omega⟩
  obtain ⟨z', hz', z0', z1'⟩ : ∃ x : Int, bits .and .i64 a5 15 = x ∧ 0 ≤ x ∧ x ≤ 15 := ⟨_, rfl, by rw [i64_and15]; omega, by rw [i64_and15]; omega⟩
  have k2 : hok x' y' z' = true := (hok_iff _ _ _).2 ⟨⟨x0', x1'⟩, ⟨y0', y1'⟩, ⟨z0', z1'⟩⟩
  have e2 : oc v = x := by simp [oc, o1, o2]
  have e3 : os v = y := by simp [os, o1, o3]
  have e4 : ok v = z := by simp [ok, o1, o4]
  have e5 : bits .and .u32 v 1 = 1 := by
    rw [show bits .and .u32 v 1 = v % 2 from and_mod v 1 1 rfl v0 v1 (by omega)]
    simp [isH] at o1; omega
  have hd : (x = x' ∧ y = y' ∧ z = z') ∨ ((¬ x = x' ∨ (x = x' ∧ ¬ y = y') ∨ (x = x' ∧ y = y' ∧ ¬ z = z')) ∧ ¬ v = pk x' y' z') := by
    by_cases h : x = x' ∧ y = y' ∧ z = z'
    · exact Or.inl h
    · refine Or.inr ⟨by omega, fun e => h ?_⟩
      obtain ⟨r1, r2, r3, r4⟩ := pk_open x' y' z' k2
      rw [← e] at r2 r3 r4
      exact ⟨o2.symm.trans r2, o3.symm.trans r3, o4.symm.trans r4⟩
  clear o2 o3 o4
  obtain ⟨v', hv', v0', v1'⟩ : ∃ v', pk x' y' z' = v' ∧ 0 ≤ v' ∧ v' ≤ 4294967295 := ⟨_, rfl, (pk_bd _ _ _).1, (pk_bd _ _ _).2⟩
  rw [hv'] at hd
  rcases hd with ⟨rfl, rfl, rfl⟩ | ⟨n1, n2⟩
  · have hvv : v = v' := hv.symm.trans hv'
    subst hvv
    clear x0' x1' y0' y1' z0' z1' k2 hv' v0' v1'
    go_enter Try.func5, Try.ntmps5
    go_wp2_with (first | (go_at_call 11; ((with_reducible refine (Pack_c _ _ _ ?_ ?_ ?_ ?_ ?_ ?_ _).mono ?_); (first | with_reducible exact (bits64_bd _ _ _).1 | with_reducible exact (bits64_bd _ _ _).2 | with_reducible assumption | (with_reducible exact (pk_bd _ _ _).1) | (with_reducible exact (pk_bd _ _ _).2) | (with_reducible exact (bits_bd _ _ _).1) | (with_reducible exact (bits_bd _ _ _).2) | omega); (first | with_reducible exact (bits64_bd _ _ _).1 | with_reducible exact (bits64_bd _ _ _).2 | with_reducible assumption | (with_reducible exact (pk_bd _ _ _).1) | (with_reducible exact (pk_bd _ _ _).2) | (with_reducible exact (bits_bd _ _ _).1) | (with_reducible exact (bits_bd _ _ _).2) | omega); (first | with_reducible exact (bits64_bd _ _ _).1 | with_reducible exact (bits64_bd _ _ _).2 | with_reducible assumption | (with_reducible exact (pk_bd _ _ _).1) | (with_reducible exact (pk_bd _ _ _).2) | (with_reducible exact (bits_bd _ _ _).1) | (with_reducible exact (bits_bd _ _ _).2) | omega); (first | with_reducible exact (bits64_bd _ _ _).1 | with_reducible exact (bits64_bd _ _ _).2 | with_reducible assumption | (with_reducible exact (pk_bd _ _ _).1) | (with_reducible exact (pk_bd _ _ _).2) | (with_reducible exact (bits_bd _ _ _).1) | (with_reducible exact (bits_bd _ _ _).2) | omega); (first | with_reducible exact (bits64_bd _ _ _).1 | with_reducible exact (bits64_bd _ _ _).2 | with_reducible assumption | (with_reducible exact (pk_bd _ _ _).1) | (with_reducible exact (pk_bd _ _ _).2) | (with_reducible exact (bits_bd _ _ _).1) | (with_reducible exact (bits_bd _ _ _).2) | omega); (first | with_reducible exact (bits64_bd _ _ _).1 | with_reducible exact (bits64_bd _ _ _).2 | with_reducible assumption | (with_reducible exact (pk_bd _ _ _).1) | (with_reducible exact (pk_bd _ _ _).2) | (with_reducible exact (bits_bd _ _ _).1) | (with_reducible exact (bits_bd _ _ _).2) | omega); rintro e w' ⟨rfl, rfl⟩)) | (go_at_call 12; ((with_reducible refine (Open_c _ ?_ ?_ _).mono ?_); (first | with_reducible exact (bits64_bd _ _ _).1 | with_reducible exact (bits64_bd _ _ _).2 | with_reducible assumption | (with_reducible exact (pk_bd _ _ _).1) | (with_reducible exact (pk_bd _ _ _).2) | (with_reducible exact (bits_bd _ _ _).1) | (with_reducible exact (bits_bd _ _ _).2) | omega); (first | with_reducible exact (bits64_bd _ _ _).1 | with_reducible exact (bits64_bd _ _ _).2 | with_reducible assumption | (with_reducible exact (pk_bd _ _ _).1) | (with_reducible exact (pk_bd _ _ _).2) | (with_reducible exact (bits_bd _ _ _).1) | (with_reducible exact (bits_bd _ _ _).2) | omega); rintro e w' ⟨rfl, n, rfl⟩)) | (go_at_call 10; ((with_reducible refine (known_c _).mono ?_); rintro e w' ⟨rfl, hb⟩; replace hg := Gr.trans (by (repeat' (first | with_reducible assumption | exact Gr.refl _ | (refine Gr.drew ?_) | (refine Gr.drewN ?_ _) | (refine Gr.alloc ?_ _)))) hb; clear hb)))
    go_ret
    exact ⟨rfl, Gr.trans (by (repeat' (first | with_reducible assumption | exact Gr.refl _ | (refine Gr.drew ?_) | (refine Gr.drewN ?_ _) | (refine Gr.alloc ?_ _)))) hg⟩
  · have n3 : (v == v') = false := by simpa using n2
    rcases n1 with n1 | ⟨rfl, n1⟩ | ⟨rfl, rfl, n1⟩
    all_goals
      go_enter Try.func5, Try.ntmps5
      go_wp2_with (first | (go_at_call 11; ((with_reducible refine (Pack_c _ _ _ ?_ ?_ ?_ ?_ ?_ ?_ _).mono ?_); (first | with_reducible exact (bits64_bd _ _ _).1 | with_reducible exact (bits64_bd _ _ _).2 | with_reducible assumption | (with_reducible exact (pk_bd _ _ _).1) | (with_reducible exact (pk_bd _ _ _).2) | (with_reducible exact (bits_bd _ _ _).1) | (with_reducible exact (bits_bd _ _ _).2) | omega); (first | with_reducible exact (bits64_bd _ _ _).1 | with_reducible exact (bits64_bd _ _ _).2 | with_reducible assumption | (with_reducible exact (pk_bd _ _ _).1) | (with_reducible exact (pk_bd _ _ _).2) | (with_reducible exact (bits_bd _ _ _).1) | (with_reducible exact (bits_bd _ _ _).2) | omega); (first | with_reducible exact (bits64_bd _ _ _).1 | with_reducible exact (bits64_bd _ _ _).2 | with_reducible assumption | (with_reducible exact (pk_bd _ _ _).1) | (with_reducible exact (pk_bd _ _ _).2) | (with_reducible exact (bits_bd _ _ _).1) | (with_reducible exact (bits_bd _ _ _).2) | omega); (first | with_reducible exact (bits64_bd _ _ _).1 | with_reducible exact (bits64_bd _ _ _).2 | with_reducible assumption | (with_reducible exact (pk_bd _ _ _).1) | (with_reducible exact (pk_bd _ _ _).2) | (with_reducible exact (bits_bd _ _ _).1) | (with_reducible exact (bits_bd _ _ _).2) | omega); (first | with_reducible exact (bits64_bd _ _ _).1 | with_reducible exact (bits64_bd _ _ _).2 | with_reducible assumption | (with_reducible exact (pk_bd _ _ _).1) | (with_reducible exact (pk_bd _ _ _).2) | (with_reducible exact (bits_bd _ _ _).1) | (with_reducible exact (bits_bd _ _ _).2) | omega); (first | with_reducible exact (bits64_bd _ _ _).1 | with_reducible exact (bits64_bd _ _ _).2 | with_reducible assumption | (with_reducible exact (pk_bd _ _ _).1) | (with_reducible exact (pk_bd _ _ _).2) | (with_reducible exact (bits_bd _ _ _).1) | (with_reducible exact (bits_bd _ _ _).2) | omega); rintro e w' ⟨rfl, rfl⟩)) | (go_at_call 12; ((with_reducible refine (Open_c _ ?_ ?_ _).mono ?_); (first | with_reducible exact (bits64_bd _ _ _).1 | with_reducible exact (bits64_bd _ _ _).2 | with_reducible assumption | (with_reducible exact (pk_bd _ _ _).1) | (with_reducible exact (pk_bd _ _ _).2) | (with_reducible exact (bits_bd _ _ _).1) | (with_reducible exact (bits_bd _ _ _).2) | omega); (first | with_reducible exact (bits64_bd _ _ _).1 | with_reducible exact (bits64_bd _ _ _).2 | with_reducible assumption | (with_reducible exact (pk_bd _ _ _).1) | (with_reducible exact (pk_bd _ _ _).2) | (with_reducible exact (bits_bd _ _ _).1) | (with_reducible exact (bits_bd _ _ _).2) | omega); rintro e w' ⟨rfl, n, rfl⟩)) | (go_at_call 10; ((with_reducible refine (known_c _).mono ?_); rintro e w' ⟨rfl, hb⟩; replace hg := Gr.trans (by (repeat' (first | with_reducible assumption | exact Gr.refl _ | (refine Gr.drew ?_) | (refine Gr.drewN ?_ _) | (refine Gr.alloc ?_ _)))) hb; clear hb)))
      go_ret
      exact ⟨rfl, Gr.trans (by (repeat' (first | with_reducible assumption | exact Gr.refl _ | (refine Gr.drew ?_) | (refine Gr.drewN ?_ _) | (refine Gr.alloc ?_ _)))) hg⟩
end Wd
end Go.Proofs.Ytldfgjbbdpfdnaa
