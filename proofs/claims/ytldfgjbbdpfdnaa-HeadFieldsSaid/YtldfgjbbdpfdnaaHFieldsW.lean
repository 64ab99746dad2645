/- The laws' walks. -/
import Derived.Test.YtldfgjbbdpfdnaaHKnown
import Derived.OpenShut
import Derived.Deep.RegionHeld
namespace Go.Proofs.Ytldfgjbbdpfdnaa
open Go.RowKit
namespace Wd
set_option maxHeartbeats 16000000 in
set_option maxRecDepth 100000 in
theorem fields_any (a0 : Int) (a1 : Int) (a2 : Int) (a3 : Int) (w0 : (Lit.int .i64 a0).wf = true) (w1 : (Lit.int .i64 a1).wf = true) (w2 : (Lit.int .i64 a2).wf = true) (w3 : (Lit.int .i64 a3).wf = true) (w : World) :
    Calls Try.prog 6 #[.int .i64 a0, .int .i64 a1, .int .i64 a2, .int .i64 a3] w fun e w' => e = .returned (.bool true) ∧ Gr w w' := by
  obtain ⟨p0, q0⟩ := bounds_i64 w0
  obtain ⟨p1, q1⟩ := bounds_i64 w1
  obtain ⟨p2, q2⟩ := bounds_i64 w2
  obtain ⟨p3, q3⟩ := bounds_i64 w3
  clear w0 w1 w2 w3
  have hg := Gr.refl w
  obtain ⟨x, hx, x0, x1⟩ : ∃ x : Int, bits .and .i64 a0 4095 = x ∧ 0 ≤ x ∧ x ≤ 4095 := ⟨_, rfl, by rw [i64_and4095]; omega, by rw [i64_and4095]; omega⟩
  obtain ⟨y, hy, y0, y1⟩ : ∃ x : Int, bits .and .i64 a1 255 = x ∧ 0 ≤ x ∧ x ≤ 255 := ⟨_, rfl, by rw [i64_and255]; omega, by rw [i64_and255]; omega⟩
  obtain ⟨z, hz, z0, z1⟩ : ∃ x : Int, bits .and .i64 a2 15 = x ∧ 0 ≤ x ∧ x ≤ 15 := ⟨_, rfl, by rw [i64_and15]; omega, by rw [i64_and15]; omega⟩
  have k1 : hok x y z = true := (hok_iff _ _ _).2 ⟨⟨x0, x1⟩, ⟨y0, y1⟩, ⟨z0, z1⟩⟩
  obtain ⟨o1, o2, o3, o4⟩ := pk_open x y z k1
  obtain ⟨v, hv, v0, v1⟩ : ∃ v, pk x y z = v ∧ 0 ≤ v ∧ v ≤ 4294967295 := ⟨_, rfl, (pk_bd _ _ _).1, (pk_bd _ _ _).2⟩
  rw [hv] at o1 o2 o3 o4
  have e2 : hc v = x := o2
  have e3 : hs v = y := o3
  obtain ⟨k, hk, k0, k7⟩ : ∃ x : Int, bits .and .i64 a3 7 = x ∧ 0 ≤ x ∧ x ≤ 7 := ⟨_, rfl, by rw [i64_and7]; omega, by rw [i64_and7]; omega⟩
  obtain ⟨m, hm, hmi⟩ : ∃ m : Int, 2 ^ k.toNat % 4294967296 = m ∧ isH (bits .xor .u32 v m) = false := by
    refine ⟨_, rfl, ?_⟩
    have : k.toNat < 8 := by omega
    refine xor_bit v _ k.toNat ?_ this v0 v1 o1
    have h2 : 2 ^ k.toNat < 2 ^ 8 := Nat.pow_lt_pow_right (by omega) this
    have hp : ((2 ^ k.toNat : Nat) : Int) = (2 : Int) ^ k.toNat := by simp
    rw [← hp]
    rw [show (2 : Nat) ^ 8 = 256 from rfl] at h2
    have h3 : 0 < 2 ^ k.toNat := Nat.two_pow_pos _
    omega
  clear o1 o2 o3 o4
  go_enter Try.func6, Try.ntmps6
  go_wp2_with (first | (go_at_call 11; ((with_reducible refine (Pack_c _ _ _ ?_ ?_ ?_ ?_ ?_ ?_ _).mono ?_); (first | with_reducible exact (bits64_bd _ _ _).1 | with_reducible exact (bits64_bd _ _ _).2 | with_reducible assumption | (with_reducible exact (pk_bd _ _ _).1) | (with_reducible exact (pk_bd _ _ _).2) | (with_reducible exact (bits_bd _ _ _).1) | (with_reducible exact (bits_bd _ _ _).2) | omega); (first | with_reducible exact (bits64_bd _ _ _).1 | with_reducible exact (bits64_bd _ _ _).2 | with_reducible assumption | (with_reducible exact (pk_bd _ _ _).1) | (with_reducible exact (pk_bd _ _ _).2) | (with_reducible exact (bits_bd _ _ _).1) | (with_reducible exact (bits_bd _ _ _).2) | omega); (first | with_reducible exact (bits64_bd _ _ _).1 | with_reducible exact (bits64_bd _ _ _).2 | with_reducible assumption | (with_reducible exact (pk_bd _ _ _).1) | (with_reducible exact (pk_bd _ _ _).2) | (with_reducible exact (bits_bd _ _ _).1) | (with_reducible exact (bits_bd _ _ _).2) | omega); (first | with_reducible exact (bits64_bd _ _ _).1 | with_reducible exact (bits64_bd _ _ _).2 | with_reducible assumption | (with_reducible exact (pk_bd _ _ _).1) | (with_reducible exact (pk_bd _ _ _).2) | (with_reducible exact (bits_bd _ _ _).1) | (with_reducible exact (bits_bd _ _ _).2) | omega); (first | with_reducible exact (bits64_bd _ _ _).1 | with_reducible exact (bits64_bd _ _ _).2 | with_reducible assumption | (with_reducible exact (pk_bd _ _ _).1) | (with_reducible exact (pk_bd _ _ _).2) | (with_reducible exact (bits_bd _ _ _).1) | (with_reducible exact (bits_bd _ _ _).2) | omega); (first | with_reducible exact (bits64_bd _ _ _).1 | with_reducible exact (bits64_bd _ _ _).2 | with_reducible assumption | (with_reducible exact (pk_bd _ _ _).1) | (with_reducible exact (pk_bd _ _ _).2) | (with_reducible exact (bits_bd _ _ _).1) | (with_reducible exact (bits_bd _ _ _).2) | omega); rintro e w' ⟨rfl, rfl⟩)) | (go_at_call 12; ((with_reducible refine (Open_c _ ?_ ?_ _).mono ?_); (first | with_reducible exact (bits64_bd _ _ _).1 | with_reducible exact (bits64_bd _ _ _).2 | with_reducible assumption | (with_reducible exact (pk_bd _ _ _).1) | (with_reducible exact (pk_bd _ _ _).2) | (with_reducible exact (bits_bd _ _ _).1) | (with_reducible exact (bits_bd _ _ _).2) | omega); (first | with_reducible exact (bits64_bd _ _ _).1 | with_reducible exact (bits64_bd _ _ _).2 | with_reducible assumption | (with_reducible exact (pk_bd _ _ _).1) | (with_reducible exact (pk_bd _ _ _).2) | (with_reducible exact (bits_bd _ _ _).1) | (with_reducible exact (bits_bd _ _ _).2) | omega); rintro e w' ⟨rfl, n, rfl⟩)) | (go_at_call 13; ((with_reducible refine (Class_c _ ?_ ?_ _).mono ?_); (first | with_reducible exact (bits64_bd _ _ _).1 | with_reducible exact (bits64_bd _ _ _).2 | with_reducible assumption | (with_reducible exact (pk_bd _ _ _).1) | (with_reducible exact (pk_bd _ _ _).2) | (with_reducible exact (bits_bd _ _ _).1) | (with_reducible exact (bits_bd _ _ _).2) | omega); (first | with_reducible exact (bits64_bd _ _ _).1 | with_reducible exact (bits64_bd _ _ _).2 | with_reducible assumption | (with_reducible exact (pk_bd _ _ _).1) | (with_reducible exact (pk_bd _ _ _).2) | (with_reducible exact (bits_bd _ _ _).1) | (with_reducible exact (bits_bd _ _ _).2) | omega); rintro e w' ⟨rfl, rfl⟩)) | (go_at_call 14; ((with_reducible refine (Size_c _ ?_ ?_ _).mono ?_); (first | with_reducible exact (bits64_bd _ _ _).1 | with_reducible exact (bits64_bd _ _ _).2 | with_reducible assumption | (with_reducible exact (pk_bd _ _ _).1) | (with_reducible exact (pk_bd _ _ _).2) | (with_reducible exact (bits_bd _ _ _).1) | (with_reducible exact (bits_bd _ _ _).2) | omega); (first | with_reducible exact (bits64_bd _ _ _).1 | with_reducible exact (bits64_bd _ _ _).2 | with_reducible assumption | (with_reducible exact (pk_bd _ _ _).1) | (with_reducible exact (pk_bd _ _ _).2) | (with_reducible exact (bits_bd _ _ _).1) | (with_reducible exact (bits_bd _ _ _).2) | omega); rintro e w' ⟨rfl, rfl⟩)) | (go_at_call 10; ((with_reducible refine (known_c _).mono ?_); rintro e w' ⟨rfl, hb⟩; replace hg := Gr.trans (by (repeat' (first | with_reducible assumption | exact Gr.refl _ | (refine Gr.drew ?_) | (refine Gr.drewN ?_ _) | (refine Gr.alloc ?_ _)))) hb; clear hb)))
  go_region_held (fun w' => w'.cell? ⟨w.heap.size, 0, none⟩ = some (.int .i64 (x)) ∧ w'.cell? ⟨w.heap.size, 1, none⟩ = some (.int .i64 (y))) (first | go_keep | (constructor <;> (rw [Below.cell (by assumption) (by simp; try omega)]; simp [*]))) (first | (go_at_call 13; ((with_reducible refine (Class_c _ ?_ ?_ _).mono ?_); (first | with_reducible exact (bits64_bd _ _ _).1 | with_reducible exact (bits64_bd _ _ _).2 | with_reducible assumption | (with_reducible exact (pk_bd _ _ _).1) | (with_reducible exact (pk_bd _ _ _).2) | (with_reducible exact (bits_bd _ _ _).1) | (with_reducible exact (bits_bd _ _ _).2) | omega); (first | with_reducible exact (bits64_bd _ _ _).1 | with_reducible exact (bits64_bd _ _ _).2 | with_reducible assumption | (with_reducible exact (pk_bd _ _ _).1) | (with_reducible exact (pk_bd _ _ _).2) | (with_reducible exact (bits_bd _ _ _).1) | (with_reducible exact (bits_bd _ _ _).2) | omega); rintro e w' ⟨rfl, rfl⟩)) | (go_at_call 14; ((with_reducible refine (Size_c _ ?_ ?_ _).mono ?_); (first | with_reducible exact (bits64_bd _ _ _).1 | with_reducible exact (bits64_bd _ _ _).2 | with_reducible assumption | (with_reducible exact (pk_bd _ _ _).1) | (with_reducible exact (pk_bd _ _ _).2) | (with_reducible exact (bits_bd _ _ _).1) | (with_reducible exact (bits_bd _ _ _).2) | omega); (first | with_reducible exact (bits64_bd _ _ _).1 | with_reducible exact (bits64_bd _ _ _).2 | with_reducible assumption | (with_reducible exact (pk_bd _ _ _).1) | (with_reducible exact (pk_bd _ _ _).2) | (with_reducible exact (bits_bd _ _ _).1) | (with_reducible exact (bits_bd _ _ _).2) | omega); rintro e w' ⟨rfl, rfl⟩)) | (go_at_call 10; ((with_reducible refine (known_c _).mono ?_); rintro e w' ⟨rfl, hb⟩)))
  all_goals go_wp2
  all_goals go_ret
  all_goals (refine ⟨rfl, Gr.trans ?_ hb⟩; clear hb; (repeat' (first | with_reducible assumption | exact Gr.refl _ | (refine Gr.drew ?_) | (refine Gr.drewN ?_ _) | (refine Gr.alloc ?_ _))))
end Wd
end Go.Proofs.Ytldfgjbbdpfdnaa
