/- The document's own dict: New, how many. -/
import Derived.Test.YtdpckckfkpefnaaJPut
namespace Go.Proofs.Ytdpckckfkpefnaa
open Go.RowKit
set_option linter.unusedVariables false
set_option maxRecDepth 20000
namespace Wd
/-- the first k are empty, the others nought yet -/
def DK (k : Nat) : Dst := List.replicate k (-1, 0) ++ List.replicate (16 - k) (0, 0)
theorem DK_all : DK 16 = D0 := rfl
theorem DK_next {k : Nat} (hk : k < 16) : (DK k).set k (-1, metA (DK k) k) = DK (k + 1) := by
  rcases (show k = 0 ∨ k = 1 ∨ k = 2 ∨ k = 3 ∨ k = 4 ∨ k = 5 ∨ k = 6 ∨ k = 7 ∨ k = 8 ∨ k = 9 ∨ k = 10 ∨ k = 11 ∨ k = 12 ∨ k = 13 ∨ k = 14 ∨ k = 15 by omega) with rfl | rfl | rfl | rfl | rfl | rfl | rfl | rfl | rfl | rfl | rfl | rfl | rfl | rfl | rfl | rfl <;> rfl
theorem zero_ref (w : World) : RefD (w.alloc (.cells #[.int .i64 0, .int .i64 0, .int .i64 0, .int .i64 0, .int .i64 0, .int .i64 0, .int .i64 0, .int .i64 0, .int .i64 0, .int .i64 0, .int .i64 0, .int .i64 0, .int .i64 0, .int .i64 0, .int .i64 0, .int .i64 0, .int .i64 0, .int .i64 0, .int .i64 0, .int .i64 0, .int .i64 0, .int .i64 0, .int .i64 0, .int .i64 0, .int .i64 0, .int .i64 0, .int .i64 0, .int .i64 0, .int .i64 0, .int .i64 0, .int .i64 0, .int .i64 0] 54)) w.heap.size (DK 0) := by
  have hh : (w.alloc (.cells #[.int .i64 0, .int .i64 0, .int .i64 0, .int .i64 0, .int .i64 0, .int .i64 0, .int .i64 0, .int .i64 0, .int .i64 0, .int .i64 0, .int .i64 0, .int .i64 0, .int .i64 0, .int .i64 0, .int .i64 0, .int .i64 0, .int .i64 0, .int .i64 0, .int .i64 0, .int .i64 0, .int .i64 0, .int .i64 0, .int .i64 0, .int .i64 0, .int .i64 0, .int .i64 0, .int .i64 0, .int .i64 0, .int .i64 0, .int .i64 0, .int .i64 0, .int .i64 0] 54)).heap[w.heap.size]? = some (.cells #[.int .i64 0, .int .i64 0, .int .i64 0, .int .i64 0, .int .i64 0, .int .i64 0, .int .i64 0, .int .i64 0, .int .i64 0, .int .i64 0, .int .i64 0, .int .i64 0, .int .i64 0, .int .i64 0, .int .i64 0, .int .i64 0, .int .i64 0, .int .i64 0, .int .i64 0, .int .i64 0, .int .i64 0, .int .i64 0, .int .i64 0, .int .i64 0, .int .i64 0, .int .i64 0, .int .i64 0, .int .i64 0, .int .i64 0, .int .i64 0, .int .i64 0, .int .i64 0] 54 (0, 0)) := heap_alloc_new _ _
  generalize w.alloc (.cells #[.int .i64 0, .int .i64 0, .int .i64 0, .int .i64 0, .int .i64 0, .int .i64 0, .int .i64 0, .int .i64 0, .int .i64 0, .int .i64 0, .int .i64 0, .int .i64 0, .int .i64 0, .int .i64 0, .int .i64 0, .int .i64 0, .int .i64 0, .int .i64 0, .int .i64 0, .int .i64 0, .int .i64 0, .int .i64 0, .int .i64 0, .int .i64 0, .int .i64 0, .int .i64 0, .int .i64 0, .int .i64 0, .int .i64 0, .int .i64 0, .int .i64 0, .int .i64 0] 54) = W at hh ⊢
  generalize w.heap.size = b at hh ⊢
  have hs : ∀ k, k < 16 → selA (DK 0) k = 0 := fun k hk => by rcases (show k = 0 ∨ k = 1 ∨ k = 2 ∨ k = 3 ∨ k = 4 ∨ k = 5 ∨ k = 6 ∨ k = 7 ∨ k = 8 ∨ k = 9 ∨ k = 10 ∨ k = 11 ∨ k = 12 ∨ k = 13 ∨ k = 14 ∨ k = 15 by omega) with rfl | rfl | rfl | rfl | rfl | rfl | rfl | rfl | rfl | rfl | rfl | rfl | rfl | rfl | rfl | rfl <;> rfl
  have hm : ∀ k, k < 16 → metA (DK 0) k = 0 := fun k hk => by rcases (show k = 0 ∨ k = 1 ∨ k = 2 ∨ k = 3 ∨ k = 4 ∨ k = 5 ∨ k = 6 ∨ k = 7 ∨ k = 8 ∨ k = 9 ∨ k = 10 ∨ k = 11 ∨ k = 12 ∨ k = 13 ∨ k = 14 ∨ k = 15 by omega) with rfl | rfl | rfl | rfl | rfl | rfl | rfl | rfl | rfl | rfl | rfl | rfl | rfl | rfl | rfl | rfl <;> rfl
  refine ⟨rfl, fun k hk => by rw [hs k hk]; constructor <;> omega, fun k hk => by rw [hm k hk]; constructor <;> omega, fun k hk => ?_, fun k hk => ?_, fun k => by simp [World.frozen?, hh]⟩
  · rw [hs k hk]
    rcases (show k = 0 ∨ k = 1 ∨ k = 2 ∨ k = 3 ∨ k = 4 ∨ k = 5 ∨ k = 6 ∨ k = 7 ∨ k = 8 ∨ k = 9 ∨ k = 10 ∨ k = 11 ∨ k = 12 ∨ k = 13 ∨ k = 14 ∨ k = 15 by omega) with rfl | rfl | rfl | rfl | rfl | rfl | rfl | rfl | rfl | rfl | rfl | rfl | rfl | rfl | rfl | rfl <;> simp [World.cell?, hh]
  · rw [hm k hk]
    rcases (show k = 0 ∨ k = 1 ∨ k = 2 ∨ k = 3 ∨ k = 4 ∨ k = 5 ∨ k = 6 ∨ k = 7 ∨ k = 8 ∨ k = 9 ∨ k = 10 ∨ k = 11 ∨ k = 12 ∨ k = 13 ∨ k = 14 ∨ k = 15 by omega) with rfl | rfl | rfl | rfl | rfl | rfl | rfl | rfl | rfl | rfl | rfl | rfl | rfl | rfl | rfl | rfl <;> simp [World.cell?, hh]
set_option maxHeartbeats 8000000 in
theorem new_c (w : World) :
    Calls Try.prog 16 #[] w fun e w' => ∃ b, e = .returned (.pointer (some ⟨b, 0, none⟩)) ∧ RefD w' b D0 ∧ w.heap.size ≤ b ∧ Below w.heap.size w w' := by
  go_enter Try.func16, Try.ntmps16
  go_upto_region 2 with fail
  have hR := Lib.hid (zero_ref w)
  have hB := Lib.hid ((Below.refl w.heap.size w).alloc (Nat.le_refl _) (.cells #[.int .i64 0, .int .i64 0, .int .i64 0, .int .i64 0, .int .i64 0, .int .i64 0, .int .i64 0, .int .i64 0, .int .i64 0, .int .i64 0, .int .i64 0, .int .i64 0, .int .i64 0, .int .i64 0, .int .i64 0, .int .i64 0, .int .i64 0, .int .i64 0, .int .i64 0, .int .i64 0, .int .i64 0, .int .i64 0, .int .i64 0, .int .i64 0, .int .i64 0, .int .i64 0, .int .i64 0, .int .i64 0, .int .i64 0, .int .i64 0, .int .i64 0, .int .i64 0] 54))
  generalize w.alloc (.cells #[.int .i64 0, .int .i64 0, .int .i64 0, .int .i64 0, .int .i64 0, .int .i64 0, .int .i64 0, .int .i64 0, .int .i64 0, .int .i64 0, .int .i64 0, .int .i64 0, .int .i64 0, .int .i64 0, .int .i64 0, .int .i64 0, .int .i64 0, .int .i64 0, .int .i64 0, .int .i64 0, .int .i64 0, .int .i64 0, .int .i64 0, .int .i64 0, .int .i64 0, .int .i64 0, .int .i64 0, .int .i64 0, .int .i64 0, .int .i64 0, .int .i64 0, .int .i64 0] 54) = W at *
  obtain ⟨b, hb⟩ : ∃ b, w.heap.size = b := ⟨_, rfl⟩
  rw [hb] at hR hB ⊢
  go_wp2
  go_loopw [5] (fun i5 wr => ∃ k : Nat, k ≤ 16 ∧ i5 = .int .i64 k ∧ Hid (RefD wr b (DK k)) ∧ Hid (Below b w wr)) (fun i5 _ => 16 - (intOf i5).toNat)
  case atStart => exact ⟨0, by omega, rfl, hR, hB⟩
  case round =>
    clear hR hB
    obtain ⟨k, hk, rfl, hR, hB⟩ := hrel
    by_cases hlt : k < 16
    · have d1 : decide ((k : Int) < 16) = true := by simp; omega
      have i0 : (0 : Int) ≤ (k : Int) := by omega
      have i1 : (k : Int) < 16 := by omega
      have c1 := hR.out.cs k hlt
      have z1 := hR.out.z k
      have h1 := hR.out.set1 hlt (x := -1) ⟨by omega, by omega⟩
      rw [DK_next hlt] at h1
      have hR' := Lib.hid h1
      have hB' : Hid (Below b w (wr.setCell ⟨b, k, none⟩ (.int .i64 (-1)))) := Lib.hid (hB.out.setCell (p := ⟨b, k, none⟩) (Nat.le_refl _) _)
      clear h1
      go_wp2
      go_roundw
      case rel => exact ⟨k + 1, by omega, by go_num, hR', hB'⟩
      case measure => simp [intOf]; omega
    · have d1 : decide ((k : Int) < 16) = false := by simp; omega
      have hR' : RefD wr b D0 := by rw [← DK_all, ← show k = 16 by omega]; exact hR.out
      go_wp2
      go_ret
      exact ⟨b, rfl, hR', by rw [hb]; exact Nat.le_refl _, by rw [hb]; exact hB.out⟩
/-- the names, as an array by value -/
def selsV (D : Dst) : List Value := (List.range 16).map (fun k => Value.int .i64 (selA D k))
theorem selsV_len (D : Dst) : (selsV D).length = 16 := by simp [selsV]
theorem selsV_at {D : Dst} {k : Nat} (hk : k < 16) : (selsV D)[k]? = some (.int .i64 (selA D k)) := by
  unfold selsV
  rw [List.getElem?_map, List.getElem?_range hk]
  rfl
theorem cellsI1 : (Try.prog.info? 3).map (fun i => i.size) = some 1 := by kernel_rfl
theorem infoA16 : (Try.prog.info? 50).map (fun i => i.size) = some 16 := by kernel_rfl
theorem rowA16 : (∃ d, Try.prog.underlying 50 = some d ∧ d.isRow = true) := ⟨_, Try.underlying50, rfl⟩
theorem run_index_s (w : World) {D : Dst} {k : Nat} (hk : k < 16) : (Instr.index 50 (.agg (selsV D).toArray) (.int .i64 (k : Int))).run Try.prog w = .ok (.int .i64 (selA D k)) w := by
  have h1 : (0 : Int) ≤ (k : Int) ∧ (k : Int) < ((16 : Nat) : Int) := by omega
  have hv := selsV_at (D := D) hk
  obtain ⟨i, hi, hs⟩ := Option.map_eq_some_iff.1 cellsI1
  simp [Instr.index, run_underlying Try.underlying50, asIntOf, sizeOf, typeInfo, hi, hs, part, isAgg, run_underlying Try.underlying3, go_sem]
  rw [if_pos hk]
  rw [hv]
  rfl
theorem RefD.range {w : World} {b : Nat} {D : Dst} (h : RefD w b D) : w.rangeAt b 0 (selsV D) := by
  intro j v hj
  have hlt : j < 16 := by
    have := (List.getElem?_eq_some_iff.1 hj).1
    rw [selsV_len] at this; exact this
  have e := selsV_at (D := D) hlt
  rw [hj] at e
  cases e
  rw [Nat.zero_add]
  exact h.cs j hlt
/-- how many of the first k are names -/
def cntK (D : Dst) (k : Nat) : Nat := ((D.take k).filter (fun x => decide (0 ≤ x.1))).length
theorem cntK_all {D : Dst} (h : D.length = 16) : cntK D 16 = cnt D := by unfold cntK cnt; rw [List.take_of_length_le (by omega)]
theorem cntK_le (D : Dst) (k : Nat) : cntK D k ≤ k := Nat.le_trans (List.length_filter_le _ _) (by rw [List.length_take]; omega)
theorem cntK_next {D : Dst} (h : D.length = 16) {k : Nat} (hk : k < 16) : cntK D (k + 1) = cntK D k + (if 0 ≤ selA D k then 1 else 0) := by
  have hx : D[k]? = some (D[k]'(by omega)) := by simp
  have hs : selA D k = (D[k]'(by omega)).1 := by unfold selA; simp [List.getD_eq_getElem?_getD, hx]
  unfold cntK
  rw [List.take_add_one, hx, List.filter_append, List.length_append, hs]
  congr 1
  simp only [Option.toList, List.filter_cons, List.filter_nil]
  split <;> rename_i q <;> simp at q <;> simp [q]
set_option maxHeartbeats 8000000 in
theorem count_c {w : World} {b : Nat} {D : Dst} (h : RefD w b D) :
    Calls Try.prog 19 #[.pointer (some ⟨b, 0, none⟩)] w fun e w' => e = .returned (.int .i64 (cnt D : Nat)) ∧ w' = w := by
  replace h := Lib.hid h
  obtain ⟨d, hd, hr⟩ := rowA16
  replace hd := Lib.hid hd
  replace hr := Lib.hid hr
  have hix : Hid (∀ (w : World) (k : Nat), k < 16 → (Instr.index 50 (.agg (selsV D).toArray) (.int .i64 (k : Int))).run Try.prog w = .ok (.int .i64 (selA D k)) w) := Lib.hid (fun w k hk => run_index_s w hk)
  go_enter Try.func19, Try.ntmps19
  go_wp2_with (refine wpList_load_mid rfl _ _ rfl b 0 rfl (selsV D) d h.out.range hd.out hr.out (by rw [selsV_len]; exact infoA16) ?_)
  generalize (selsV D).toArray = AV at *
  go_loopw [3, 10] (fun i3 i10 wr => ∃ k : Nat, k ≤ 16 ∧ i10 = .int .i64 k ∧ i3 = .int .i64 (cntK D k : Nat) ∧ wr = w) (fun _ i10 _ => 16 - (intOf i10).toNat)
  case atStart => exact ⟨0, by omega, rfl, rfl, rfl⟩
  case round =>
    obtain ⟨k, hk, rfl, rfl, rfl⟩ := hrel
    have hck := cntK_le D k
    by_cases hlt : k < 16
    · have d1 : decide ((k : Int) < 16) = true := by simp; omega
      have i0 : (0 : Int) ≤ (k : Int) := by omega
      have i1 : (k : Int) < 16 := by omega
      have ci := hix.out wr k hlt
      have hn := cntK_next h.out.len hlt
      obtain ⟨x, hx⟩ : ∃ x, x = selA D k := ⟨_, rfl⟩
      rw [← hx] at ci hn
      by_cases h0 : 0 ≤ x
      · have d2 : decide (x ≥ 0) = true := by simpa using h0
        rw [if_pos h0] at hn
        replace hn := Lib.hid hn
        clear hx h0
        go_wp2
        go_roundw
        case rel => exact ⟨k + 1, by omega, by go_num, by rw [hn.out]; go_num, trivial⟩
        case measure => simp [intOf]; omega
      · have d2 : decide (x ≥ 0) = false := by simpa using h0
        rw [if_neg h0] at hn
        replace hn := Lib.hid hn
        clear hx h0
        go_wp2
        go_roundw
        case rel => exact ⟨k + 1, by omega, by go_num, by rw [hn.out]; rfl, trivial⟩
        case measure => simp [intOf]; omega
    · have d1 : decide ((k : Int) < 16) = false := by simp; omega
      have e := Lib.hid (cntK_all h.out.len)
      have hk16 : k = 16 := by omega
      have e2 : cntK D k = cnt D := by rw [hk16]; exact e.out
      rw [e2]
      clear e2 hk16
      go_wp2
      go_ret
      exact ⟨rfl, rfl⟩
end Wd
end Go.Proofs.Ytdpckckfkpefnaa
