/- Chapter 2's closed sentence: its loops. -/
import Derived.Test.YtldfgjbbdpfdnaaHKnown
import Derived.OpenShut
namespace Go.Proofs.Ytldfgjbbdpfdnaa
open Go.RowKit
namespace Wd
/-- the n cells of block B hold numbers, in this world and in any that only grew -/
def Row (w1 : World) (B n : Nat) : Prop := ∀ wr, Gr w1 wr → ∀ j, j < n → ∃ c : Int, -9223372036854775808 ≤ c ∧ c ≤ 9223372036854775807 ∧ wr.cell? ⟨B, j, none⟩ = some (.int .i64 c)
theorem row8 (W : World) (t : TypeId) : Row (W.alloc (.cells #[.int .i64 (-9223372036854775808), .int .i64 (-1), .int .i64 (0), .int .i64 (1), .int .i64 (2047), .int .i64 (4095), .int .i64 (4096), .int .i64 (4611686018427387904)] t)) W.heap.size 8 := by
  intro wr hg j hj
  rw [Below.cell hg (p := ⟨W.heap.size, j, none⟩) (by simp)]
  match j, hj with
  | 0, _ => exact ⟨(-9223372036854775808), by omega, by omega, by simp⟩
  | 1, _ => exact ⟨(-1), by omega, by omega, by simp⟩
  | 2, _ => exact ⟨(0), by omega, by omega, by simp⟩
  | 3, _ => exact ⟨(1), by omega, by omega, by simp⟩
  | 4, _ => exact ⟨(2047), by omega, by omega, by simp⟩
  | 5, _ => exact ⟨(4095), by omega, by omega, by simp⟩
  | 6, _ => exact ⟨(4096), by omega, by omega, by simp⟩
  | 7, _ => exact ⟨(4611686018427387904), by omega, by omega, by simp⟩
theorem rowS (W : World) (t : TypeId) : Row (W.alloc (.cells #[.int .i64 (-1), .int .i64 (0), .int .i64 (62), .int .i64 (255), .int .i64 (256)] t)) W.heap.size 5 := by
  intro wr hg j hj
  rw [Below.cell hg (p := ⟨W.heap.size, j, none⟩) (by simp)]
  match j, hj with
  | 0, _ => exact ⟨(-1), by omega, by omega, by simp⟩
  | 1, _ => exact ⟨(0), by omega, by omega, by simp⟩
  | 2, _ => exact ⟨(62), by omega, by omega, by simp⟩
  | 3, _ => exact ⟨(255), by omega, by omega, by simp⟩
  | 4, _ => exact ⟨(256), by omega, by omega, by simp⟩
theorem rowK (W : World) (t : TypeId) : Row (W.alloc (.cells #[.int .i64 (-1), .int .i64 (0), .int .i64 (4), .int .i64 (15), .int .i64 (16)] t)) W.heap.size 5 := by
  intro wr hg j hj
  rw [Below.cell hg (p := ⟨W.heap.size, j, none⟩) (by simp)]
  match j, hj with
  | 0, _ => exact ⟨(-1), by omega, by omega, by simp⟩
  | 1, _ => exact ⟨(0), by omega, by omega, by simp⟩
  | 2, _ => exact ⟨(4), by omega, by omega, by simp⟩
  | 3, _ => exact ⟨(15), by omega, by omega, by simp⟩
  | 4, _ => exact ⟨(16), by omega, by omega, by simp⟩

/-- a loop over n places that makes memory -/
def RG (w1 : World) (n : Nat) (i : Value) (wr : World) : Prop := ∃ k : Nat, k ≤ n ∧ i = .int .i64 k ∧ Gr w1 wr
def RU (w1 : World) (n : Nat) (i : Value) (wr : World) : Prop := ∃ k : Nat, k ≤ n ∧ i = .int .u64 k ∧ Gr w1 wr
set_option maxHeartbeats 16000000 in
set_option maxRecDepth 100000 in
theorem numbers_any (w : World) :
    Calls Try.prog 3 #[] w fun e w' => e = .returned (.bool true) ∧ Gr w w' := by
  go_enter Try.func3, Try.ntmps3
  go_wp2
  have HC := Lib.hid (row8 w 3)
  have G1 : Gr w (w.alloc (.cells #[.int .i64 (-9223372036854775808), .int .i64 (-1), .int .i64 (0), .int .i64 (1), .int .i64 (2047), .int .i64 (4095), .int .i64 (4096), .int .i64 (4611686018427387904)] 3)) := (Gr.refl w).alloc _
  generalize w.alloc (.cells #[.int .i64 (-9223372036854775808), .int .i64 (-1), .int .i64 (0), .int .i64 (1), .int .i64 (2047), .int .i64 (4095), .int .i64 (4096), .int .i64 (4611686018427387904)] 3) = w1 at *
  go_loopw [12] (RG w1 8) (fun i _ => 8 - (intOf i).toNat)
  case atStart => exact ⟨0, by omega, rfl, Gr.refl _⟩
  case round =>
    obtain ⟨k, hk, rfl, hl⟩ := hrel
    by_cases hlt : k < 8
    · have hlt' : decide ((k : Int) < 8) = true := by simp; omega
      obtain ⟨c, c0, c1, hc⟩ := HC.out _ hl k hlt
      go_wp2
      have HS := Lib.hid (rowS wr 3)
      have G2 : Gr w1 (wr.alloc (.cells #[.int .i64 (-1), .int .i64 (0), .int .i64 (62), .int .i64 (255), .int .i64 (256)] 3)) := hl.alloc _
      generalize wr.alloc (.cells #[.int .i64 (-1), .int .i64 (0), .int .i64 (62), .int .i64 (255), .int .i64 (256)] 3) = w2 at *
      go_loopw [18] (RG w2 5) (fun i _ => 5 - (intOf i).toNat)
      case atStart => exact ⟨0, by omega, rfl, Gr.refl _⟩
      case round =>
        obtain ⟨k2, hk2, rfl, hl2⟩ := hrel
        by_cases hlt2 : k2 < 5
        · have hlt2' : decide ((k2 : Int) < 5) = true := by simp; omega
          obtain ⟨s, s0, s1, hs⟩ := HS.out _ hl2 k2 hlt2
          go_wp2
          have HK := Lib.hid (rowK wr 3)
          have G3 : Gr w1 (wr.alloc (.cells #[.int .i64 (-1), .int .i64 (0), .int .i64 (4), .int .i64 (15), .int .i64 (16)] 3)) := (Gr.trans G2 hl2).alloc _
          have G4 : Gr w2 (wr.alloc (.cells #[.int .i64 (-1), .int .i64 (0), .int .i64 (4), .int .i64 (15), .int .i64 (16)] 3)) := hl2.alloc _
          generalize wr.alloc (.cells #[.int .i64 (-1), .int .i64 (0), .int .i64 (4), .int .i64 (15), .int .i64 (16)] 3) = w3 at *
          go_loopw [24] (RG w3 5) (fun i _ => 5 - (intOf i).toNat)
          case atStart => exact ⟨0, by omega, rfl, Gr.refl _⟩
          case round =>
            obtain ⟨k3, hk3, rfl, hl3⟩ := hrel
            by_cases hlt3 : k3 < 5
            · have hlt3' : decide ((k3 : Int) < 5) = true := by simp; omega
              obtain ⟨v, v0, v1, hv⟩ := HK.out _ hl3 k3 hlt3
              go_wp2_with (first | (go_at_call 8; ((with_reducible refine (rpack_c _ _ _ _).mono ?_); rintro e w' ⟨rfl, rfl⟩)))
              refine (same_c _ _ _ _ ?_ ?_ ?_ ?_ ?_ ?_ ?_ ?_ _).mono ?_
              any_goals (first | with_reducible exact (bits64_bd _ _ _).1 | with_reducible exact (bits64_bd _ _ _).2 | with_reducible assumption | (with_reducible exact (pk_bd _ _ _).1) | (with_reducible exact (pk_bd _ _ _).2) | (with_reducible exact (bits_bd _ _ _).1) | (with_reducible exact (bits_bd _ _ _).2) | omega)
              rintro e w4 ⟨rfl, hg4⟩
              go_wp2_with fail
              refine (same_c _ _ _ _ ?_ ?_ ?_ ?_ ?_ ?_ ?_ ?_ _).mono ?_
              any_goals (first | with_reducible exact (bits64_bd _ _ _).1 | with_reducible exact (bits64_bd _ _ _).2 | with_reducible assumption | (with_reducible exact (pk_bd _ _ _).1) | (with_reducible exact (pk_bd _ _ _).2) | (with_reducible exact (bits_bd _ _ _).1) | (with_reducible exact (bits_bd _ _ _).2) | omega)
              rintro e w5 ⟨rfl, hg5⟩
              have G5 : Gr w3 w5 := Gr.trans hl3 (Gr.trans hg4 hg5)
              go_wp2
              go_roundw
              case rel => exact ⟨k3 + 1, by omega, by go_num, G5⟩
              case measure => simp [intOf]; omega
            · go_wp2
              go_roundw
              case rel => exact ⟨k2 + 1, by omega, by go_num, Gr.trans G4 hl3⟩
              case measure => simp [intOf]; omega
        · go_wp2
          go_roundw
          case rel => exact ⟨k + 1, by omega, by go_num, Gr.trans G2 hl2⟩
          case measure => simp [intOf]; omega
    · have G6 : Gr w wr := Gr.trans G1 hl
      go_wp2
      go_loopw [9] (RU wr 32) (fun i _ => 32 - (intOf i).toNat)
      case atStart => exact ⟨0, by omega, rfl, Gr.refl _⟩
      case round =>
        obtain ⟨k2, hk2, rfl, hl2⟩ := hrel
        by_cases hlt2 : k2 < 32
        · have hlt2' : decide ((k2 : Int) < 32) = true := by simp; omega
          go_wp2_with (first | (go_at_call 9; ((with_reducible refine (same_c _ _ _ _ ?_ ?_ ?_ ?_ ?_ ?_ ?_ ?_ _).mono ?_); (first | with_reducible exact (bits64_bd _ _ _).1 | with_reducible exact (bits64_bd _ _ _).2 | with_reducible assumption | (with_reducible exact (pk_bd _ _ _).1) | (with_reducible exact (pk_bd _ _ _).2) | (with_reducible exact (bits_bd _ _ _).1) | (with_reducible exact (bits_bd _ _ _).2) | omega); (first | with_reducible exact (bits64_bd _ _ _).1 | with_reducible exact (bits64_bd _ _ _).2 | with_reducible assumption | (with_reducible exact (pk_bd _ _ _).1) | (with_reducible exact (pk_bd _ _ _).2) | (with_reducible exact (bits_bd _ _ _).1) | (with_reducible exact (bits_bd _ _ _).2) | omega); (first | with_reducible exact (bits64_bd _ _ _).1 | with_reducible exact (bits64_bd _ _ _).2 | with_reducible assumption | (with_reducible exact (pk_bd _ _ _).1) | (with_reducible exact (pk_bd _ _ _).2) | (with_reducible exact (bits_bd _ _ _).1) | (with_reducible exact (bits_bd _ _ _).2) | omega); (first | with_reducible exact (bits64_bd _ _ _).1 | with_reducible exact (bits64_bd _ _ _).2 | with_reducible assumption | (with_reducible exact (pk_bd _ _ _).1) | (with_reducible exact (pk_bd _ _ _).2) | (with_reducible exact (bits_bd _ _ _).1) | (with_reducible exact (bits_bd _ _ _).2) | omega); (first | with_reducible exact (bits64_bd _ _ _).1 | with_reducible exact (bits64_bd _ _ _).2 | with_reducible assumption | (with_reducible exact (pk_bd _ _ _).1) | (with_reducible exact (pk_bd _ _ _).2) | (with_reducible exact (bits_bd _ _ _).1) | (with_reducible exact (bits_bd _ _ _).2) | omega); (first | with_reducible exact (bits64_bd _ _ _).1 | with_reducible exact (bits64_bd _ _ _).2 | with_reducible assumption | (with_reducible exact (pk_bd _ _ _).1) | (with_reducible exact (pk_bd _ _ _).2) | (with_reducible exact (bits_bd _ _ _).1) | (with_reducible exact (bits_bd _ _ _).2) | omega); (first | with_reducible exact (bits64_bd _ _ _).1 | with_reducible exact (bits64_bd _ _ _).2 | with_reducible assumption | (with_reducible exact (pk_bd _ _ _).1) | (with_reducible exact (pk_bd _ _ _).2) | (with_reducible exact (bits_bd _ _ _).1) | (with_reducible exact (bits_bd _ _ _).2) | omega); (first | with_reducible exact (bits64_bd _ _ _).1 | with_reducible exact (bits64_bd _ _ _).2 | with_reducible assumption | (with_reducible exact (pk_bd _ _ _).1) | (with_reducible exact (pk_bd _ _ _).2) | (with_reducible exact (bits_bd _ _ _).1) | (with_reducible exact (bits_bd _ _ _).2) | omega); rintro e w' ⟨rfl, hb⟩)))
          refine ⟨⟨k2 + 1, by omega, by go_num, Gr.trans hl2 (Gr.trans (by assumption) (Gr.trans (by assumption) hb))⟩, ?_⟩
          simp [intOf]; omega
        · go_wp2_with (first | (go_at_call 10; ((with_reducible refine (known_c _).mono ?_); rintro e w' ⟨rfl, hb⟩)))
          go_ret
          exact ⟨rfl, Gr.trans G6 (Gr.trans hl2 hb)⟩
end Wd
end Go.Proofs.Ytldfgjbbdpfdnaa
