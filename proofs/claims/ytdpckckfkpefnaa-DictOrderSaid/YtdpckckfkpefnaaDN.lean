/- The landed dict: New, Len. -/
import Derived.Test.YtdpckckfkpefnaaDP
namespace Go.Proofs.Ytdpckckfkpefnaa
open Go.RowKit
set_option linter.unusedVariables false
set_option maxRecDepth 20000
namespace Wd
theorem dzero (w : World) : RefD (w.alloc (.cells #[.int .i64 0, .int .i64 0, .int .i64 0, .int .i64 0, .int .i64 0, .int .i64 0, .int .i64 0, .int .i64 0, .int .i64 0, .int .i64 0, .int .i64 0, .int .i64 0, .int .i64 0, .int .i64 0, .int .i64 0, .int .i64 0, .int .i64 0, .int .i64 0, .int .i64 0, .int .i64 0, .int .i64 0, .int .i64 0, .int .i64 0, .int .i64 0, .int .i64 0, .int .i64 0, .int .i64 0, .int .i64 0, .int .i64 0, .int .i64 0, .int .i64 0, .int .i64 0] 52)) w.heap.size (DK 0) := by
  have hh : (w.alloc (.cells #[.int .i64 0, .int .i64 0, .int .i64 0, .int .i64 0, .int .i64 0, .int .i64 0, .int .i64 0, .int .i64 0, .int .i64 0, .int .i64 0, .int .i64 0, .int .i64 0, .int .i64 0, .int .i64 0, .int .i64 0, .int .i64 0, .int .i64 0, .int .i64 0, .int .i64 0, .int .i64 0, .int .i64 0, .int .i64 0, .int .i64 0, .int .i64 0, .int .i64 0, .int .i64 0, .int .i64 0, .int .i64 0, .int .i64 0, .int .i64 0, .int .i64 0, .int .i64 0] 52)).heap[w.heap.size]? = some (.cells #[.int .i64 0, .int .i64 0, .int .i64 0, .int .i64 0, .int .i64 0, .int .i64 0, .int .i64 0, .int .i64 0, .int .i64 0, .int .i64 0, .int .i64 0, .int .i64 0, .int .i64 0, .int .i64 0, .int .i64 0, .int .i64 0, .int .i64 0, .int .i64 0, .int .i64 0, .int .i64 0, .int .i64 0, .int .i64 0, .int .i64 0, .int .i64 0, .int .i64 0, .int .i64 0, .int .i64 0, .int .i64 0, .int .i64 0, .int .i64 0, .int .i64 0, .int .i64 0] 52 (0, 0)) := heap_alloc_new _ _
  generalize w.alloc (.cells #[.int .i64 0, .int .i64 0, .int .i64 0, .int .i64 0, .int .i64 0, .int .i64 0, .int .i64 0, .int .i64 0, .int .i64 0, .int .i64 0, .int .i64 0, .int .i64 0, .int .i64 0, .int .i64 0, .int .i64 0, .int .i64 0, .int .i64 0, .int .i64 0, .int .i64 0, .int .i64 0, .int .i64 0, .int .i64 0, .int .i64 0, .int .i64 0, .int .i64 0, .int .i64 0, .int .i64 0, .int .i64 0, .int .i64 0, .int .i64 0, .int .i64 0, .int .i64 0] 52) = W at hh ⊢
  generalize w.heap.size = b at hh ⊢
  have hs : ∀ k, k < 16 → selA (DK 0) k = 0 := fun k hk => by rcases (show k = 0 ∨ k = 1 ∨ k = 2 ∨ k = 3 ∨ k = 4 ∨ k = 5 ∨ k = 6 ∨ k = 7 ∨ k = 8 ∨ k = 9 ∨ k = 10 ∨ k = 11 ∨ k = 12 ∨ k = 13 ∨ k = 14 ∨ k = 15 by omega) with rfl | rfl | rfl | rfl | rfl | rfl | rfl | rfl | rfl | rfl | rfl | rfl | rfl | rfl | rfl | rfl <;> rfl
  have hm : ∀ k, k < 16 → metA (DK 0) k = 0 := fun k hk => by rcases (show k = 0 ∨ k = 1 ∨ k = 2 ∨ k = 3 ∨ k = 4 ∨ k = 5 ∨ k = 6 ∨ k = 7 ∨ k = 8 ∨ k = 9 ∨ k = 10 ∨ k = 11 ∨ k = 12 ∨ k = 13 ∨ k = 14 ∨ k = 15 by omega) with rfl | rfl | rfl | rfl | rfl | rfl | rfl | rfl | rfl | rfl | rfl | rfl | rfl | rfl | rfl | rfl <;> rfl
  refine ⟨rfl, fun k hk => by rw [hs k hk]; constructor <;> omega, fun k hk => by rw [hm k hk]; constructor <;> omega, fun k hk => ?_, fun k hk => ?_, fun k => by simp [World.frozen?, hh]⟩
  · rw [hs k hk]
    rcases (show k = 0 ∨ k = 1 ∨ k = 2 ∨ k = 3 ∨ k = 4 ∨ k = 5 ∨ k = 6 ∨ k = 7 ∨ k = 8 ∨ k = 9 ∨ k = 10 ∨ k = 11 ∨ k = 12 ∨ k = 13 ∨ k = 14 ∨ k = 15 by omega) with rfl | rfl | rfl | rfl | rfl | rfl | rfl | rfl | rfl | rfl | rfl | rfl | rfl | rfl | rfl | rfl <;> simp [World.cell?, hh]
  · rw [hm k hk]
    rcases (show k = 0 ∨ k = 1 ∨ k = 2 ∨ k = 3 ∨ k = 4 ∨ k = 5 ∨ k = 6 ∨ k = 7 ∨ k = 8 ∨ k = 9 ∨ k = 10 ∨ k = 11 ∨ k = 12 ∨ k = 13 ∨ k = 14 ∨ k = 15 by omega) with rfl | rfl | rfl | rfl | rfl | rfl | rfl | rfl | rfl | rfl | rfl | rfl | rfl | rfl | rfl | rfl <;> simp [World.cell?, hh]
set_option maxHeartbeats 8000000 in
theorem dnew_c (w : World) :
    Calls Try.prog 11 #[] w fun e w' => ∃ b, e = .returned (.pointer (some ⟨b, 0, none⟩)) ∧ RefD w' b D0 ∧ w.heap.size ≤ b ∧ Below w.heap.size w w' := by
  go_enter Try.func11, Try.ntmps11
  go_upto_region 2 with fail
  have hR := Lib.hid (dzero w)
  have hB := Lib.hid ((Below.refl w.heap.size w).alloc (Nat.le_refl _) (.cells #[.int .i64 0, .int .i64 0, .int .i64 0, .int .i64 0, .int .i64 0, .int .i64 0, .int .i64 0, .int .i64 0, .int .i64 0, .int .i64 0, .int .i64 0, .int .i64 0, .int .i64 0, .int .i64 0, .int .i64 0, .int .i64 0, .int .i64 0, .int .i64 0, .int .i64 0, .int .i64 0, .int .i64 0, .int .i64 0, .int .i64 0, .int .i64 0, .int .i64 0, .int .i64 0, .int .i64 0, .int .i64 0, .int .i64 0, .int .i64 0, .int .i64 0, .int .i64 0] 52))
  generalize w.alloc (.cells #[.int .i64 0, .int .i64 0, .int .i64 0, .int .i64 0, .int .i64 0, .int .i64 0, .int .i64 0, .int .i64 0, .int .i64 0, .int .i64 0, .int .i64 0, .int .i64 0, .int .i64 0, .int .i64 0, .int .i64 0, .int .i64 0, .int .i64 0, .int .i64 0, .int .i64 0, .int .i64 0, .int .i64 0, .int .i64 0, .int .i64 0, .int .i64 0, .int .i64 0, .int .i64 0, .int .i64 0, .int .i64 0, .int .i64 0, .int .i64 0, .int .i64 0, .int .i64 0] 52) = W at *
  obtain ⟨b, hb⟩ : ∃ b, w.heap.size = b := ⟨_, rfl⟩
  rw [hb] at hR hB ⊢
  go_wp2
  go_loopw [5] (fun i5 wr => ∃ k : Nat, k ≤ 16 ∧ i5 = .int .i64 k ∧ Hid (RefD wr b (DK k)) ∧ Hid (Below b w wr)) (fun i5 _ => 16 - (intOf i5).toNat)
  case atStart => exact ⟨0, by omega, rfl, hR, hB⟩
  case round =>
    clear hR hB
    obtain ⟨k, hk, rfl, hR, hB⟩ := hrel
    by_cases hlt : k < 16
    · have d1 : decide ((k : Int) < 16) = true := by simp; omega
      have i0 : (0 : Int) ≤ (k : Int) := by omega
      have i1 : (k : Int) < 16 := by omega
      have c1 := hR.out.cs k hlt
      have z1 := hR.out.z k
      have h1 := hR.out.set1 hlt (x := -1) ⟨by omega, by omega⟩
      rw [DK_next hlt] at h1
      have hR' := Lib.hid h1
      have hB' : Hid (Below b w (wr.setCell ⟨b, k, none⟩ (.int .i64 (-1)))) := Lib.hid (hB.out.setCell (p := ⟨b, k, none⟩) (Nat.le_refl _) _)
      clear h1
      go_wp2
      go_roundw
      case rel => exact ⟨k + 1, by omega, by go_num, hR', hB'⟩
      case measure => simp [intOf]; omega
    · have d1 : decide ((k : Int) < 16) = false := by simp; omega
      have hR' : RefD wr b D0 := by rw [← DK_all, ← show k = 16 by omega]; exact hR.out
      go_wp2
      go_ret
      exact ⟨b, rfl, hR', by rw [hb]; exact Nat.le_refl _, by rw [hb]; exact hB.out⟩
set_option maxHeartbeats 8000000 in
theorem dlen_c {w : World} {b : Nat} {D : Dst} {F : Nat → Prop} (h0 : DA w b D F) :
    Calls Try.prog 14 #[.pointer (some ⟨b, 0, none⟩)] w fun e w' => e = .returned (.int .i64 (cnt D : Nat)) ∧ Below w.heap.size w w' := by
  have h := Lib.hid h0.ref
  have hlo := Lib.hid h0.low
  have hB := Lib.hid (Below.refl w.heap.size w)
  clear h0
  obtain ⟨d, hd, hr⟩ := rowA16
  replace hd := Lib.hid hd
  replace hr := Lib.hid hr
  have hix : Hid (∀ (w : World) (k : Nat), k < 16 → (Instr.index 50 (.agg (selsV D).toArray) (.int .i64 (k : Int))).run Try.prog w = .ok (.int .i64 (selA D k)) w) := Lib.hid (fun w k hk => run_index_s w hk)
  go_enter Try.func14, Try.ntmps14
  go_wp2_with (refine wpList_load_mid rfl _ _ rfl b 0 rfl (selsV D) d h.out.range hd.out hr.out (by rw [selsV_len]; exact infoA16) ?_)
  generalize (selsV D).toArray = AV at *
  go_loopw [3, 10] (fun i3 i10 wr => ∃ k : Nat, k ≤ 16 ∧ i10 = .int .i64 k ∧ i3 = .int .i64 (cntK D k : Nat) ∧ wr = w) (fun _ i10 _ => 16 - (intOf i10).toNat)
  case atStart => exact ⟨0, by omega, rfl, rfl, rfl⟩
  case round =>
    obtain ⟨k, hk, rfl, rfl, rfl⟩ := hrel
    have hck := cntK_le D k
    by_cases hlt : k < 16
    · have d1 : decide ((k : Int) < 16) = true := by simp; omega
      have i0 : (0 : Int) ≤ (k : Int) := by omega
      have i1 : (k : Int) < 16 := by omega
      have ci := hix.out wr k hlt
      have hn := cntK_next h.out.len hlt
      have hx1 := hlo.out k hlt
      obtain ⟨x, hx⟩ : ∃ x, x = selA D k := ⟨_, rfl⟩
      rw [← hx] at ci hn hx1
      by_cases h0 : 0 ≤ x
      · have d2 : (x != -1) = true := by simp; omega
        rw [if_pos h0] at hn
        replace hn := Lib.hid hn
        clear hx h0 hx1
        go_wp2
        go_roundw
        case rel => exact ⟨k + 1, by omega, by go_num, by rw [hn.out]; go_num, trivial⟩
        case measure => simp [intOf]; omega
      · have d2 : (x != -1) = false := by simp; omega
        rw [if_neg h0] at hn
        replace hn := Lib.hid hn
        clear hx h0 hx1
        go_wp2
        go_roundw
        case rel => exact ⟨k + 1, by omega, by go_num, by rw [hn.out]; rfl, trivial⟩
        case measure => simp [intOf]; omega
    · have d1 : decide ((k : Int) < 16) = false := by simp; omega
      have e := Lib.hid (cntK_all h.out.len)
      have hk16 : k = 16 := by omega
      have e2 : cntK D k = cnt D := by rw [hk16]; exact e.out
      rw [e2]
      clear e2 hk16
      go_wp2
      go_ret
      exact ⟨rfl, hB.out⟩
end Wd
end Go.Proofs.Ytdpckckfkpefnaa
