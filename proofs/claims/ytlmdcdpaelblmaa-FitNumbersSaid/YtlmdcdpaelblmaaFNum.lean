/- Chapter 3's closed sentence: its loops. -/
import Derived.Test.YtlmdcdpaelblmaaFKn
import Derived.OpenShut
namespace Go.Proofs.Ytlmdcdpaelblmaa
open Go.RowKit
namespace Wd
/-- the n cells of block B hold numbers, in this world and in any that only grew -/
def Row (w1 : World) (B n : Nat) : Prop := ∀ wr, Gr w1 wr → ∀ j, j < n → ∃ c : Int, -9223372036854775808 ≤ c ∧ c ≤ 9223372036854775807 ∧ wr.cell? ⟨B, j, none⟩ = some (.int .i64 c)
theorem row5 (W : World) (t : TypeId) : Row (W.alloc (.cells #[.int .i64 (511), .int .i64 (512), .int .i64 (513), .int .i64 (4611686018427387904), .int .i64 (-9223372036854775808)] t)) W.heap.size 5 := by
  intro wr hg j hj
  rw [Below.cell hg (p := ⟨W.heap.size, j, none⟩) (by simp)]
  match j, hj with
  | 0, _ => exact ⟨(511), by omega, by omega, by simp⟩
  | 1, _ => exact ⟨(512), by omega, by omega, by simp⟩
  | 2, _ => exact ⟨(513), by omega, by omega, by simp⟩
  | 3, _ => exact ⟨(4611686018427387904), by omega, by omega, by simp⟩
  | 4, _ => exact ⟨(-9223372036854775808), by omega, by omega, by simp⟩
/-- a loop over n places that makes memory -/
def RG (w1 : World) (n : Nat) (i : Value) (wr : World) : Prop := ∃ k : Nat, k ≤ n ∧ i = .int .i64 k ∧ Gr w1 wr
/-- a loop from lo to hi that makes memory -/
def RS (w1 : World) (lo hi : Int) (i : Value) (wr : World) : Prop := ∃ k : Int, lo ≤ k ∧ k ≤ hi ∧ i = .int .i64 k ∧ Gr w1 wr
set_option maxHeartbeats 16000000 in
set_option maxRecDepth 100000 in
theorem numbers_any (w : World) :
    Calls Try.prog 3 #[] w fun e w' => e = .returned (.bool true) ∧ Gr w w' := by
  go_enter Try.func3, Try.ntmps3
  go_wp2
  go_loopw [1] (RS w (-3) 70) (fun i _ => (70 - intOf i).toNat)
  case atStart => exact ⟨-3, by omega, by omega, rfl, Gr.refl _⟩
  case round =>
    obtain ⟨n, n0, n1, rfl, hl⟩ := hrel
    by_cases hlt : n < 70
    · have hlt' : decide (n < 70) = true := by simp; omega
      go_wp2
      go_loopw [2] (RS wr (-1) 20) (fun i _ => (20 - intOf i).toNat)
      case atStart => exact ⟨-1, by omega, by omega, rfl, Gr.refl _⟩
      case round =>
        rename World => w2
        obtain ⟨k, k0, k1, rfl, hl2⟩ := hrel
        by_cases hlt2 : k < 20
        · have hlt2' : decide (k < 20) = true := by simp; omega
          have hg := Gr.refl w2
          go_wp2_with (first | (go_at_call 8; ((with_reducible refine (same_c _ _ _ _ _ _ _ ?_ ?_ ?_ ?_ ?_ ?_ ?_ ?_ ?_ ?_ ?_ ?_ ?_ ?_ _).mono ?_); (first | with_reducible assumption | omega); (first | with_reducible assumption | omega); (first | with_reducible assumption | omega); (first | with_reducible assumption | omega); (first | with_reducible assumption | omega); (first | with_reducible assumption | omega); (first | with_reducible assumption | omega); (first | with_reducible assumption | omega); (first | with_reducible assumption | omega); (first | with_reducible assumption | omega); (first | with_reducible assumption | omega); (first | with_reducible assumption | omega); (first | with_reducible assumption | omega); (first | with_reducible assumption | omega); rintro e w' ⟨rfl, hb⟩; replace hg := Gr.trans (by (repeat' (first | with_reducible assumption | exact Gr.refl _ | (refine Gr.drew ?_) | (refine Gr.drewN ?_ _) | (refine Gr.alloc ?_ _)))) hb; clear hb)))
          go_roundw
          case rel => exact ⟨k + 1, by omega, by omega, by go_num, Gr.trans hl2 (Gr.trans (by (repeat' (first | with_reducible assumption | exact Gr.refl _ | (refine Gr.drew ?_) | (refine Gr.drewN ?_ _) | (refine Gr.alloc ?_ _)))) hg)⟩
          case measure => simp [intOf]; omega
        · go_wp2
          go_roundw
          case rel => exact ⟨n + 1, by omega, by omega, by go_num, Gr.trans hl hl2⟩
          case measure => simp [intOf]; omega
    · go_wp2
      have HC := Lib.hid (row5 wr 3)
      have G1 : Gr w (wr.alloc (.cells #[.int .i64 (511), .int .i64 (512), .int .i64 (513), .int .i64 (4611686018427387904), .int .i64 (-9223372036854775808)] 3)) := hl.alloc _
      generalize wr.alloc (.cells #[.int .i64 (511), .int .i64 (512), .int .i64 (513), .int .i64 (4611686018427387904), .int .i64 (-9223372036854775808)] 3) = w1 at *
      go_loopw [42] (RG w1 5) (fun i _ => 5 - (intOf i).toNat)
      case atStart => exact ⟨0, by omega, rfl, Gr.refl _⟩
      case round =>
        rename World => w3
        obtain ⟨k, hk, rfl, hl3⟩ := hrel
        by_cases hlt3 : k < 5
        · have hlt3' : decide ((k : Int) < 5) = true := by simp; omega
          obtain ⟨c, c0, c1, hc⟩ := HC.out _ hl3 k hlt3
          have hg := Gr.refl w3
          go_wp2_with (first | (go_at_call 8; ((with_reducible refine (same_c _ _ _ _ _ _ _ ?_ ?_ ?_ ?_ ?_ ?_ ?_ ?_ ?_ ?_ ?_ ?_ ?_ ?_ _).mono ?_); (first | with_reducible assumption | omega); (first | with_reducible assumption | omega); (first | with_reducible assumption | omega); (first | with_reducible assumption | omega); (first | with_reducible assumption | omega); (first | with_reducible assumption | omega); (first | with_reducible assumption | omega); (first | with_reducible assumption | omega); (first | with_reducible assumption | omega); (first | with_reducible assumption | omega); (first | with_reducible assumption | omega); (first | with_reducible assumption | omega); (first | with_reducible assumption | omega); (first | with_reducible assumption | omega); rintro e w' ⟨rfl, hb⟩; replace hg := Gr.trans (by (repeat' (first | with_reducible assumption | exact Gr.refl _ | (refine Gr.drew ?_) | (refine Gr.drewN ?_ _) | (refine Gr.alloc ?_ _)))) hb; clear hb)))
          go_roundw
          case rel => exact ⟨k + 1, by omega, by go_num, Gr.trans hl3 hg⟩
          case measure => simp [intOf]; omega
        · have hg := Gr.refl w3
          go_wp2_with (first | (go_at_call 9; ((with_reducible refine (known_c _).mono ?_); rintro e w' ⟨rfl, hb⟩; replace hg := Gr.trans (by (repeat' (first | with_reducible assumption | exact Gr.refl _ | (refine Gr.drew ?_) | (refine Gr.drewN ?_ _) | (refine Gr.alloc ?_ _)))) hb; clear hb)))
          go_ret
          exact ⟨rfl, Gr.trans G1 (Gr.trans hl3 hg)⟩
end Wd
end Go.Proofs.Ytlmdcdpaelblmaa
