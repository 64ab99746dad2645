/- The document's own instructions: Fetch, Takes, Name, literals. -/
import Derived.Test.YthlijmdohejheaaOPure
namespace Go.Proofs.Ythlijmdohejheaa
open Go.RowKit
set_option linter.unusedVariables false
set_option maxRecDepth 20000
namespace Wd
set_option maxHeartbeats 4000000 in
theorem rnumber_c (x : Int) (w : World) :
    Calls Try.prog 38 #[.int .i64 x] w fun e w' => e = .returned (.bool (decide (-1073741824 ≤ x) && decide (x ≤ 1073741823))) ∧ w' = w := by
  by_cases h : -1073741824 ≤ x
  · by_cases h2 : x ≤ 1073741823
    · have d1 : decide (x ≥ -1073741824) = true := by simp; omega
      have d2 : decide (x ≤ 1073741823) = true := by simp; omega
      rw [decide_eq_true h, decide_eq_true h2]
      go_enter Try.func38, Try.ntmps38
      go_wp2
      go_ret
      exact ⟨rfl, rfl⟩
    · have d1 : decide (x ≥ -1073741824) = true := by simp; omega
      have d2 : decide (x ≤ 1073741823) = false := by simp; omega
      rw [decide_eq_true h, decide_eq_false h2]
      go_enter Try.func38, Try.ntmps38
      go_wp2
      go_ret
      exact ⟨rfl, rfl⟩
  · have d1 : decide (x ≥ -1073741824) = false := by simp; omega
    rw [decide_eq_false h]
    go_enter Try.func38, Try.ntmps38
    go_wp2
    go_ret
    exact ⟨rfl, rfl⟩
set_option maxHeartbeats 4000000 in
theorem rtakes_c (p : Int) (hp : In64 p) (w : World) :
    Calls Try.prog 25 #[.int .i64 p] w fun e w' => e = .returned (.int .i64 (takR p)) ∧ Below w.heap.size w w' := by
  have hB := Lib.hid (Below.refl w.heap.size w)
  by_cases h0 : p < 0
  · have d1 : decide (p < 0) = true := by simpa using h0
    have e : Hid (takR p = -1) := Lib.hid (if_pos (Or.inl h0))
    go_enter Try.func25, Try.ntmps25
    go_wp2
    go_ret
    exact ⟨by rw [e.out]; rfl, hB.out⟩
  · have d1 : decide (p < 0) = false := by simpa using h0
    by_cases h1 : p > 23
    · have d2 : decide (p > 23) = true := by simpa using h1
      have e : Hid (takR p = -1) := Lib.hid (if_pos (Or.inr h1))
      go_enter Try.func25, Try.ntmps25
      go_wp2
      go_ret
      exact ⟨by rw [e.out]; rfl, hB.out⟩
    · have d2 : decide (p > 23) = false := by simpa using h1
      have e : Hid (takR p = takL.getD p.toNat 0) := Lib.hid (if_neg (by omega))
      obtain ⟨j, rfl⟩ : ∃ j : Nat, p = j := ⟨p.toNat, by omega⟩
      have hj : j < 24 := by omega
      have p0 : (0 : Int) ≤ (j : Int) := by omega
      have p1 : (j : Int) < 24 := by omega
      have ha := tak_at j hj
      rw [Int.toNat_natCast] at e
      generalize takL.getD j 0 = y at *
      go_enter Try.func25, Try.ntmps25
      go_wp2
      go_ret
      exact ⟨by rw [e.out]; rfl, Below.alloc (Below.refl _ _) (Nat.le_refl _) _⟩
set_option maxHeartbeats 4000000 in
theorem rname_c (p : Int) (hp : In64 p) (w : World) :
    Calls Try.prog 26 #[.int .i64 p] w fun e w' => e = .returned (.string (namR p)) ∧ Below w.heap.size w w' := by
  have hB := Lib.hid (Below.refl w.heap.size w)
  by_cases h0 : p < 0
  · have d1 : decide (p < 0) = true := by simpa using h0
    have e : Hid (namR p = ⟨#[]⟩) := Lib.hid (if_pos (Or.inl h0))
    go_enter Try.func26, Try.ntmps26
    go_wp2
    go_ret
    exact ⟨by rw [e.out]; rfl, hB.out⟩
  · have d1 : decide (p < 0) = false := by simpa using h0
    by_cases h1 : p > 21
    · have d2 : decide (p > 21) = true := by simpa using h1
      have e : Hid (namR p = ⟨#[]⟩) := Lib.hid (if_pos (Or.inr h1))
      go_enter Try.func26, Try.ntmps26
      go_wp2
      go_ret
      exact ⟨by rw [e.out]; rfl, hB.out⟩
    · have d2 : decide (p > 21) = false := by simpa using h1
      have e : Hid (namR p = namL.getD p.toNat ⟨#[]⟩) := Lib.hid (if_neg (by omega))
      obtain ⟨j, rfl⟩ : ∃ j : Nat, p = j := ⟨p.toNat, by omega⟩
      have hj : j < 22 := by omega
      have p0 : (0 : Int) ≤ (j : Int) := by omega
      have p1 : (j : Int) < 22 := by omega
      have ha := nam_at j hj
      rw [Int.toNat_natCast] at e
      generalize namL.getD j ⟨#[]⟩ = y at *
      go_enter Try.func26, Try.ntmps26
      go_wp2
      go_ret
      exact ⟨by rw [e.out]; rfl, Below.alloc (Below.refl _ _) (Nat.le_refl _) _⟩
end Wd
end Go.Proofs.Ythlijmdohejheaa
