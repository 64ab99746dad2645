/- The landed names: the key of a name. -/
import Derived.Test.YtbefmkkmkjogcaaLR
namespace Go.Proofs.Ytbefmkkmkjogcaa
open Go.RowKit
set_option linter.unusedVariables false
set_option maxRecDepth 20000
namespace Wd
theorem kof_n (b : ByteArray) (w : World) (h : argsR b < 0) : Calls Try.prog 13 #[.string b] w fun e w' => e = .returned (.tuple #[.agg zcs, .bool false]) ∧ Below w.heap.size w w' := by
  have PR := Lib.hid (right_c b)
  rw [decide_eq_false (by omega)] at PR
  have hB : Hid (Below w.heap.size w ((w.alloc (.cells zcs 33)).alloc (.cells zcs 33))) := Lib.hid (((Below.refl _ _).alloc (Nat.le_refl _) _).alloc (by simp) _)
  unfold zcs at *
  go_enter Try.func13, Try.ntmps13
  go_wp2_with (first | (go_at_call 14; ((with_reducible refine (PR.out _).mono ?_); rintro e1 w2 ⟨rfl, hw2⟩; subst w2)))
  go_returns
  exact ⟨rfl, hB.out⟩
set_option maxHeartbeats 4000000 in
theorem kof_y (b : ByteArray) (w : World) (h : 0 ≤ argsR b) : Calls Try.prog 13 #[.string b] w fun e w' => e = .returned (.tuple #[.agg (kcs b), .bool true]) ∧ Below w.heap.size w w' := by
  have PR := Lib.hid (right_c b)
  rw [decide_eq_true h] at PR
  have hcp := copy_key b (args_size h) (w.alloc (.cells zcs 33)) (w.heap.size + 1) (by simp)
  have hB : Hid (Below w.heap.size w ((w.alloc (.cells (kcs b) 33)).alloc (.cells (kcs b) 33))) := Lib.hid (((Below.refl _ _).alloc (Nat.le_refl _) _).alloc (by simp) _)
  clear h
  unfold zcs kcs at *
  generalize kn b 0 = k0 at *
  generalize kn b 1 = k1 at *
  generalize kn b 2 = k2 at *
  generalize kn b 3 = k3 at *
  generalize kn b 4 = k4 at *
  generalize kn b 5 = k5 at *
  generalize kn b 6 = k6 at *
  generalize kn b 7 = k7 at *
  generalize kn b 8 = k8 at *
  generalize kn b 9 = k9 at *
  generalize kn b 10 = k10 at *
  generalize kn b 11 = k11 at *
  generalize kn b 12 = k12 at *
  generalize kn b 13 = k13 at *
  generalize kn b 14 = k14 at *
  generalize kn b 15 = k15 at *
  go_enter Try.func13, Try.ntmps13
  go_wp2_with (first | (go_at_call 14; ((with_reducible refine (PR.out _).mono ?_); rintro e1 w2 ⟨rfl, hw2⟩; subst w2)))
  go_returns
  exact ⟨rfl, hB.out⟩
end Wd
end Go.Proofs.Ytbefmkkmkjogcaa
