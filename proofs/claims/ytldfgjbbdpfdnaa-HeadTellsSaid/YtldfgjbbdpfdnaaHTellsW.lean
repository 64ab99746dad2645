/- The laws' walks. -/
import Derived.Test.YtldfgjbbdpfdnaaHKnown
import Derived.OpenShut
namespace Go.Proofs.Ytldfgjbbdpfdnaa
open Go.RowKit
namespace Wd
set_option maxHeartbeats 16000000 in
set_option maxRecDepth 100000 in
theorem tells_any (a0 : Int) (a1 : Int) (a2 : Int) (a3 : Int) (w0 : (Lit.int .i64 a0).wf = true) (w1 : (Lit.int .i64 a1).wf = true) (w2 : (Lit.int .i64 a2).wf = true) (w3 : (Lit.int .u32 a3).wf = true) (w : World) :
    Calls Try.prog 4 #[.int .i64 a0, .int .i64 a1, .int .i64 a2, .int .u32 a3] w fun e w' => e = .returned (.bool true) ∧ Gr w w' := by
  obtain ⟨p0, q0⟩ := bounds_i64 w0
  obtain ⟨p1, q1⟩ := bounds_i64 w1
  obtain ⟨p2, q2⟩ := bounds_i64 w2
  obtain ⟨p3, q3⟩ := bounds_u32 w3
  clear w0 w1 w2 w3
  have hg := Gr.refl w
  go_enter Try.func4, Try.ntmps4
  go_wp2_with (first | (go_at_call 9; ((with_reducible refine (same_c _ _ _ _ ?_ ?_ ?_ ?_ ?_ ?_ ?_ ?_ _).mono ?_); (first | with_reducible exact (bits64_bd _ _ _).1 | with_reducible exact (bits64_bd _ _ _).2 | with_reducible assumption | (with_reducible exact (pk_bd _ _ _).1) | (with_reducible exact (pk_bd _ _ _).2) | (with_reducible exact (bits_bd _ _ _).1) | (with_reducible exact (bits_bd _ _ _).2) | omega); (first | with_reducible exact (bits64_bd _ _ _).1 | with_reducible exact (bits64_bd _ _ _).2 | with_reducible assumption | (with_reducible exact (pk_bd _ _ _).1) | (with_reducible exact (pk_bd _ _ _).2) | (with_reducible exact (bits_bd _ _ _).1) | (with_reducible exact (bits_bd _ _ _).2) | omega); (first | with_reducible exact (bits64_bd _ _ _).1 | with_reducible exact (bits64_bd _ _ _).2 | with_reducible assumption | (with_reducible exact (pk_bd _ _ _).1) | (with_reducible exact (pk_bd _ _ _).2) | (with_reducible exact (bits_bd _ _ _).1) | (with_reducible exact (bits_bd _ _ _).2) | omega); (first | with_reducible exact (bits64_bd _ _ _).1 | with_reducible exact (bits64_bd _ _ _).2 | with_reducible assumption | (with_reducible exact (pk_bd _ _ _).1) | (with_reducible exact (pk_bd _ _ _).2) | (with_reducible exact (bits_bd _ _ _).1) | (with_reducible exact (bits_bd _ _ _).2) | omega); (first | with_reducible exact (bits64_bd _ _ _).1 | with_reducible exact (bits64_bd _ _ _).2 | with_reducible assumption | (with_reducible exact (pk_bd _ _ _).1) | (with_reducible exact (pk_bd _ _ _).2) | (with_reducible exact (bits_bd _ _ _).1) | (with_reducible exact (bits_bd _ _ _).2) | omega); (first | with_reducible exact (bits64_bd _ _ _).1 | with_reducible exact (bits64_bd _ _ _).2 | with_reducible assumption | (with_reducible exact (pk_bd _ _ _).1) | (with_reducible exact (pk_bd _ _ _).2) | (with_reducible exact (bits_bd _ _ _).1) | (with_reducible exact (bits_bd _ _ _).2) | omega); (first | with_reducible exact (bits64_bd _ _ _).1 | with_reducible exact (bits64_bd _ _ _).2 | with_reducible assumption | (with_reducible exact (pk_bd _ _ _).1) | (with_reducible exact (pk_bd _ _ _).2) | (with_reducible exact (bits_bd _ _ _).1) | (with_reducible exact (bits_bd _ _ _).2) | omega); (first | with_reducible exact (bits64_bd _ _ _).1 | with_reducible exact (bits64_bd _ _ _).2 | with_reducible assumption | (with_reducible exact (pk_bd _ _ _).1) | (with_reducible exact (pk_bd _ _ _).2) | (with_reducible exact (bits_bd _ _ _).1) | (with_reducible exact (bits_bd _ _ _).2) | omega); rintro e w' ⟨rfl, hb⟩; replace hg := Gr.trans (by (repeat' (first | with_reducible assumption | exact Gr.refl _ | (refine Gr.drew ?_) | (refine Gr.drewN ?_ _) | (refine Gr.alloc ?_ _)))) hb; clear hb)) | (go_at_call 10; ((with_reducible refine (known_c _).mono ?_); rintro e w' ⟨rfl, hb⟩; replace hg := Gr.trans (by (repeat' (first | with_reducible assumption | exact Gr.refl _ | (refine Gr.drew ?_) | (refine Gr.drewN ?_ _) | (refine Gr.alloc ?_ _)))) hb; clear hb)))
  go_ret
  exact ⟨rfl, hg⟩
end Wd
end Go.Proofs.Ytldfgjbbdpfdnaa
